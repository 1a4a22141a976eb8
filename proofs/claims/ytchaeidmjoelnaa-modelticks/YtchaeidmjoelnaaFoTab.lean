/-
  The map of what each Kind does, which package fold's changes makes.
-/
import Derived.Test.YtchaeidmjoelnaaFoMap
import Derived.Maps.OwnSet
import Derived.Maps.Views
namespace Go.Proofs.Ytchaeidmjoelnaa
open Go.RowKit

def Fits (n : Int) : Prop := -9223372036854775808 ≤ n ∧ n ≤ 9223372036854775807
theorem below_grown' {B m : Nat} {w W W' : World} (h : Below B w W) (hg : W.grownBy W' (some m)) (hm : B ≤ m) (hB : B ≤ w.heap.size) : Below B w W' :=
  ⟨hg.os.trans h.os, hg.tape.trans h.tape, hg.output.trans h.output, Nat.le_trans h.size hg.size, fun k hk => by
    rw [hg.block k (by have := h.size; omega) (fun e => by injection e with e; omega)]
    exact h.block k hk⟩
/-- An element reads as itself. -/
def heldR (v : Value) : Option (DataW Value × List MemPlace) := some (.held v, [])
def key (k : Int) : Lit := .int .i64 k
theorem key_keyed : Maps.Keyed Try.prog 3 := Maps.int_keyed Try.underlying3
theorem key_inj {a b : Int} (h : a ≠ b) : key a ≠ key b := by intro e; injection e with _ e; exact h e
theorem key_lit (k : Int) : WideAt.IsKeyLit (key k) := by simp [key, WideAt.IsKeyLit]
theorem key_of {k : Int} (h : Fits k) : keyOf Try.prog 3 (.int .i64 k) = some (key k) := Maps.keyOf_int_mk Try.underlying3 (by
  unfold Fits at h
  simp [Lit.wf, IntKind.min, IntKind.max, IntKind.signed, IntKind.bits]
  omega)

/-- A function value that does this, as long as what it holds stays: its blocks lie behind block m. -/
def Does (m : Nat) (W : World) (f : Value) (g : St → Rc → St × Bool) : Prop :=
  ∃ fn p q, f = .func (.func fn) #[] #[.pointer (some ⟨p, 0, none⟩), .pointer (some ⟨q, 0, none⟩)] ∧ EntersC fn ∧
    ∀ W', (∀ k, m < k → k < W.heap.size → W'.heap[k]? = W.heap[k]?) → ∀ s r, rightS s = true → Calls Try.prog fn #[stV s, recV r, .pointer (some ⟨p, 0, none⟩), .pointer (some ⟨q, 0, none⟩)] W' (StepR (g s r) W')
theorem Does.keep {m : Nat} {W W' : World} {f : Value} {g : St → Rc → St × Bool} (h : Does m W f g) (hk : ∀ k, m < k → k < W.heap.size → W'.heap[k]? = W.heap[k]?) (hs : W.heap.size ≤ W'.heap.size) : Does m W' f g := by
  obtain ⟨fn, p, q, hf, hE, h⟩ := h
  exact ⟨fn, p, q, hf, hE, fun W'' h2 => h W'' fun k h3 h4 => (h2 k h3 (by omega)).trans (hk k h3 h4)⟩
/-- The map in block m of W has just what T says. -/
structure Tab (m : Nat) (W : World) (T : Int → Option (St → Rc → St × Bool)) (n : Nat) : Prop where
  own : ∃ D, W.ownsMap Try.prog 3 heldR m n D ∧ ∀ k, Maps.has D (key k) = (T k).isSome ∧ (T k = none → D.atKey (key k) (.held .nilFunc) = .held .nilFunc) ∧ ∀ g, T k = some g → ∃ v, D.atKey (key k) (.held .nilFunc) = .held v ∧ Does m W v g
theorem Tab.made (w : World) : Tab w.heap.size (w.alloc (.map #[] 0)) (fun _ => none) 0 :=
  ⟨⟨_, World.ownsMap_made w _ _ _, fun k => ⟨rfl, fun _ => rfl, fun xs h => by cases h⟩⟩⟩
theorem Tab.lt {m n : Nat} {W : World} {T : Int → Option (St → Rc → St × Bool)} (h : Tab m W T n) : m < W.heap.size := by
  obtain ⟨D, ho, _⟩ := h.own
  exact ho.lt
theorem Tab.under {m n : Nat} {W W' : World} {T : Int → Option (St → Rc → St × Bool)} (h : Tab m W T n) (hb : Below W.heap.size W W') : Tab m W' T n := by
  have hlt := h.lt
  obtain ⟨D, ⟨es, c, h1, h2⟩, hs⟩ := h.own
  refine ⟨⟨D, ⟨es, c, (hb.block m hlt).trans h1, h2⟩, fun k => ⟨(hs k).1, (hs k).2.1, fun g hg => ?_⟩⟩⟩
  obtain ⟨v, h3, h4⟩ := (hs k).2.2 g hg
  exact ⟨v, h3, h4.keep (fun k _ hk => hb.block k hk) hb.size⟩
theorem Tab.put {m n : Nat} {W : World} {T : Int → Option (St → Rc → St × Bool)} (h : Tab m W T n) (k0 : Int) {f : Value} {g : St → Rc → St × Bool} (hf : Does m W f g) (hk : Fits k0) (hn : n < 1000) :
    ∃ W', (Instr.mapUpdate 105 (.map (some m)) (.int .i64 k0) f).run Try.prog W = .ok () W' ∧ Tab m W' (fun k => if k = k0 then some g else T k) (n + 1) ∧ W.grownBy W' (some m) := by
  obtain ⟨D, ho, hs⟩ := h.own
  obtain ⟨W', hrun, ho', hg⟩ := ho.update key_keyed Try.underlying105 (by unfold maxLen; omega) (key_of hk) (d := .held f) (ps := []) rfl
  have hD : ∀ {v g'}, Does m W v g' → Does m W' v g' := fun h => h.keep (fun k h1 h2 => hg.block k h2 (by intro e; injection e with e; omega)) hg.size
  refine ⟨W', hrun, ⟨⟨_, ho', fun k => ?_⟩⟩, hg⟩
  by_cases e : k = k0
  · subst e
    refine ⟨by rw [Maps.has_put_same ho.isMap (key_lit _)]; simp, fun h => by simp at h, fun g' hg' => ⟨_, Maps.atKey_put_same ho.isMap (key_lit _) _ _, ?_⟩⟩
    obtain rfl : g = g' := by simpa using hg'
    exact hD hf
  · rw [Maps.has_put_other (key_inj e), Maps.atKey_put_other (key_inj e), if_neg e]
    refine ⟨(hs k).1, (hs k).2.1, fun g' hg' => ?_⟩
    obtain ⟨v, h1, h2⟩ := (hs k).2.2 g' hg'
    exact ⟨v, h1, hD h2⟩
theorem zero47 (W : World) : (zeroValue 110).run Try.prog W = .ok .nilFunc W := by
  have := Try.underlying110
  go_simp
theorem Tab.look {m n : Nat} {W : World} {T : Int → Option (St → Rc → St × Bool)} (h : Tab m W T n) (k : Int) (hk : Fits k) :
    ∃ v, (Instr.lookup 105 (.map (some m)) (.int .i64 k) true).run Try.prog W = .ok (.tuple #[v, .bool (T k).isSome]) W ∧ (T k = none → v = .nilFunc) ∧ ∀ g, T k = some g → Does m W v g := by
  obtain ⟨D, ho, hs⟩ := h.own
  obtain ⟨v, ps, hrun, hv⟩ := ho.look_ok key_keyed Try.underlying105 (zero47 W) (zd := .held .nilFunc) (zp := []) rfl (key_of hk)
  obtain ⟨h1, h2, h3⟩ := hs k
  have hv' : DataW.held v = D.atKey (key k) (.held .nilFunc) := by
    unfold heldR at hv
    exact (Prod.mk.inj (Option.some.inj hv)).1
  refine ⟨v, by rw [hrun, h1], fun ht => ?_, fun g ht => ?_⟩
  · rw [h2 ht] at hv'
    injection hv'
  · obtain ⟨u, h4, h5⟩ := h3 g ht
    rw [h4] at hv'
    injection hv' with e
    subst e
    exact h5
theorem enters_41 : EntersC 81 := enters_of Try.func81 (by kernel_rfl) rfl
theorem enters_43 : EntersC 83 := enters_of Try.func83 (by kernel_rfl) rfl
theorem Tab.putIn {m n : Nat} {W : World} {T : Int → Option (St → Rc → St × Bool)} (h : Tab m W T n) (k0 : Int) (c : Nat) (g : St → Rc → St × Bool) (ps : List Int) (hE : EntersC c) (hc : ∀ s r, rightS s = true → CallsC c (g s r) s r) (hp : ps.length ≤ 10) (hk : Fits k0) (hn : n < 1000) :
    ∃ W', (Instr.mapUpdate 105 (.map (some m)) (.int .i64 k0) (.func (.func 81) #[] #[.pointer (some ⟨W.heap.size + 1 + 1, 0, none⟩), .pointer (some ⟨W.heap.size + 1, 0, none⟩)])).run Try.prog (((W.alloc (.cells (ints ps).toArray 3)).alloc (.cells #[.func (.func c) #[] #[]] 110)).alloc (.cells #[.slice (some ⟨W.heap.size, 0, none⟩) ps.length ps.length] 32)) = .ok () W' ∧ Tab m W' (fun k => if k = k0 then some (inS ps g) else T k) (n + 1) ∧ Below m W W' := by
  have hlt := h.lt
  have b1 := ((Below.refl W.heap.size W).alloc (Nat.le_refl _) (.cells (ints ps).toArray 3)).alloc (by simp) (.cells #[.func (.func c) #[] #[]] 110)
  have b2 := b1.alloc (by simp; omega) (.cells #[.slice (some ⟨W.heap.size, 0, none⟩) ps.length ps.length] 32)
  have r3 := ((Rw.new W (ints ps).toArray 3).alloc (.cells #[.func (.func c) #[] #[]] 110)).alloc (.cells #[.slice (some ⟨W.heap.size, 0, none⟩) ps.length ps.length] 32)
  have r2 := (Rw.new (W.alloc (.cells (ints ps).toArray 3)) #[.func (.func c) #[] #[]] 110).alloc (.cells #[.slice (some ⟨W.heap.size, 0, none⟩) ps.length ps.length] 32)
  have r1 := Rw.new ((W.alloc (.cells (ints ps).toArray 3)).alloc (.cells #[.func (.func c) #[] #[]] 110)) #[.slice (some ⟨W.heap.size, 0, none⟩) ps.length ps.length] 32
  rw [size_alloc] at r2
  rw [size_alloc, size_alloc] at r1
  obtain ⟨W', e, ht, hg⟩ := (h.under b2).put k0 (g := inS ps g) (f := .func (.func 81) #[] #[.pointer (some ⟨W.heap.size + 1 + 1, 0, none⟩), .pointer (some ⟨W.heap.size + 1, 0, none⟩)]) ⟨81, _, _, rfl, enters_41, fun W' hW s r hs => by
      refine in1_any c g ps _ _ W.heap.size s r W' hE (fun _ => hc s r hs) hp ((hW _ (by omega) (by first | (simp; done) | (simp; omega))).trans r1) ((hW _ (by omega) (by first | (simp; done) | (simp; omega))).trans r2) ((hW _ hlt (by first | (simp; done) | (simp; omega))).trans r3)⟩ hk hn
  exact ⟨W', e, ht, below_grown' (b2.mono (Nat.le_of_lt hlt)) hg (Nat.le_refl _) (Nat.le_of_lt hlt)⟩
theorem Tab.putUnder {m n : Nat} {W : World} {T : Int → Option (St → Rc → St × Bool)} (h : Tab m W T n) (k0 : Int) (c : Nat) (g : St → Rc → St × Bool) (far : Int) (hE : EntersC c) (hc : ∀ s r, rightS s = true → CallsC c (g s r) s r) (hk : Fits k0) (hn : n < 1000) :
    ∃ W', (Instr.mapUpdate 105 (.map (some m)) (.int .i64 k0) (.func (.func 83) #[] #[.pointer (some ⟨W.heap.size + 1, 0, none⟩), .pointer (some ⟨W.heap.size, 0, none⟩)])).run Try.prog ((W.alloc (.cells #[.func (.func c) #[] #[]] 110)).alloc (.cells #[.int .i64 far] 3)) = .ok () W' ∧ Tab m W' (fun k => if k = k0 then some (underS far g) else T k) (n + 1) ∧ Below m W W' := by
  have hlt := h.lt
  have b2 := ((Below.refl W.heap.size W).alloc (Nat.le_refl _) (.cells #[.func (.func c) #[] #[]] 110)).alloc (by simp) (.cells #[.int .i64 far] 3)
  have r2 := (Rw.new W #[.func (.func c) #[] #[]] 110).alloc (.cells #[.int .i64 far] 3)
  have r1 := Rw.new (W.alloc (.cells #[.func (.func c) #[] #[]] 110)) #[.int .i64 far] 3
  rw [size_alloc] at r1
  obtain ⟨W', e, ht, hg⟩ := (h.under b2).put k0 (g := underS far g) (f := .func (.func 83) #[] #[.pointer (some ⟨W.heap.size + 1, 0, none⟩), .pointer (some ⟨W.heap.size, 0, none⟩)]) ⟨83, _, _, rfl, enters_43, fun W' hW s r hs => by
      refine under1_any c g far _ _ s r W' hE (fun _ _ => hc s r hs) ((hW _ (by omega) (by first | (simp; done) | (simp; omega))).trans r1) ((hW _ hlt (by first | (simp; done) | (simp; omega))).trans r2)⟩ hk hn
  exact ⟨W', e, ht, below_grown' (b2.mono (Nat.le_of_lt hlt)) hg (Nat.le_refl _) (Nat.le_of_lt hlt)⟩
/-- What each Kind does. -/
def changesT (k : Int) : Option (St → Rc → St × Bool) :=
  if k = 10 then some (inS [5, 7] (fun s _ => sc10 s)) else if k = 9 then some (inS [4] gb9) else if k = 8 then some (underS 2 ap8) else if k = 7 then some (underS 1 (fun s _ => ca7 s)) else if k = 6 then some (underS 1 (fun s _ => co6 s)) else if k = 5 then some (inS [3, 6] pr5) else if k = 4 then some (inS [2] ga4) else if k = 3 then some (inS [1] (fun s _ => wa3 s)) else if k = 2 then some (inS [1, 2, 3, 4, 5] (fun s _ => ab2 s)) else if k = 1 then some (inS [0, 1, 2] dep1) else none
set_option maxRecDepth 100000 in
set_option maxHeartbeats 4000000 in
theorem in_any (c : Nat) (v : Value) (A : Option Addr) (n m : Nat) (hv : v = .slice A n m) (w : World) : Calls Try.prog 65 #[.func (.func c) #[] #[], v] w fun e w' => e = .returned (.func (.func 81) #[] #[.pointer (some ⟨w.heap.size + 1, 0, none⟩), .pointer (some ⟨w.heap.size, 0, none⟩)]) ∧ w' = (w.alloc (.cells #[.func (.func c) #[] #[]] 110)).alloc (.cells #[v] 32) := by
  subst hv
  have hmf : ∀ (fn : Fn) (first cap : Array Value) (w : World), (Instr.makeFunc fn first cap).run Try.prog w = .ok (.func fn first cap) w := fun _ _ _ _ => rfl
  go_enter Try.func65, Try.ntmps65
  go_wp2
  go_ret
  exact ⟨rfl, rfl⟩
set_option maxRecDepth 100000 in
set_option maxHeartbeats 4000000 in
theorem under_any (c : Nat) (far : Int) (w : World) : Calls Try.prog 71 #[.func (.func c) #[] #[], .int .i64 far] w fun e w' => e = .returned (.func (.func 83) #[] #[.pointer (some ⟨w.heap.size + 1, 0, none⟩), .pointer (some ⟨w.heap.size, 0, none⟩)]) ∧ w' = (w.alloc (.cells #[.func (.func c) #[] #[]] 110)).alloc (.cells #[.int .i64 far] 3) := by
  have hmf : ∀ (fn : Fn) (first cap : Array Value) (w : World), (Instr.makeFunc fn first cap).run Try.prog w = .ok (.func fn first cap) w := fun _ _ _ _ => rfl
  go_enter Try.func71, Try.ntmps71
  go_wp2
  go_ret
  exact ⟨rfl, rfl⟩
set_option maxRecDepth 100000 in
set_option maxHeartbeats 4000000 in
theorem changes_any (w : World) : Calls Try.prog 61 #[] w fun e w' => e = .returned (.map (some w.heap.size)) ∧ Tab w.heap.size w' changesT 10 ∧ Below w.heap.size w w' := by
  have hmm := @run_makeMap Try.prog
  have F : ∀ n : Int, 0 ≤ n → n ≤ 20 → Fits n := fun n h1 h2 => by unfold Fits; omega
  have T0 := Tab.made w
  have B0 : Below w.heap.size w (w.alloc (.map #[] 0)) := (Below.refl _ _).alloc (Nat.le_refl _) _
  obtain ⟨W1, e1, T1, b1⟩ := T0.putIn 1 66 dep1 [0, 1, 2] (enters_of Try.func66 (by kernel_rfl) rfl) (fun s r hs W => deploy_any s r W (right_in hs).1) (by decide) (F _ (by omega) (by omega)) (by omega)
  obtain ⟨W2, e2, T2, b2⟩ := T1.putIn 2 67 (fun s _ => ab2 s) [1, 2, 3, 4, 5] (enters_of Try.func67 (by kernel_rfl) rfl) (fun s r hs W => abort_any s r W (right_in hs).1) (by decide) (F _ (by omega) (by omega)) (by omega)
  obtain ⟨W3, e3, T3, b3⟩ := T2.putIn 3 68 (fun s _ => wa3 s) [1] (enters_of Try.func68 (by kernel_rfl) rfl) (fun s r _ W => warm_any s r W) (by decide) (F _ (by omega) (by omega)) (by omega)
  obtain ⟨W4, e4, T4, b4⟩ := T3.putIn 4 69 ga4 [2] (enters_of Try.func69 (by kernel_rfl) rfl) (fun s r hs W => gate_ahead_any s r W (right_in hs).1) (by decide) (F _ (by omega) (by omega)) (by omega)
  obtain ⟨W5, e5, T5, b5⟩ := T4.putIn 5 70 pr5 [3, 6] (enters_of Try.func70 (by kernel_rfl) rfl) (fun s r hs W => prepare_any s r W (right_in hs).2.2.2.1 (right_in hs).2.2.2.2.1) (by decide) (F _ (by omega) (by omega)) (by omega)
  obtain ⟨W6, e6, T6, b6⟩ := T5.putUnder 6 72 (fun s _ => co6 s) 1 (enters_of Try.func72 (by kernel_rfl) rfl) (fun s r _ W => commit_any s r W) (F _ (by omega) (by omega)) (by omega)
  obtain ⟨W7, e7, T7, b7⟩ := T6.putUnder 7 73 (fun s _ => ca7 s) 1 (enters_of Try.func73 (by kernel_rfl) rfl) (fun s r hs W => cancel_any s r W (right_in hs).2.2.2.1 (right_in hs).2.2.2.2.1) (F _ (by omega) (by omega)) (by omega)
  obtain ⟨W8, e8, T8, b8⟩ := T7.putUnder 8 74 ap8 2 (enters_of Try.func74 (by kernel_rfl) rfl) (fun s r hs W => applied_any s r W (right_in hs).1) (F _ (by omega) (by omega)) (by omega)
  obtain ⟨W9, e9, T9, b9⟩ := T8.putIn 9 75 gb9 [4] (enters_of Try.func75 (by kernel_rfl) rfl) (fun s r _ W => gate_behind_any s r W) (by decide) (F _ (by omega) (by omega)) (by omega)
  obtain ⟨W10, e10, T10, b10⟩ := T9.putIn 10 76 (fun s _ => sc10 s) [5, 7] (enters_of Try.func76 (by kernel_rfl) rfl) (fun s r hs W => scaled_any s r W (right_in hs).1) (by decide) (F _ (by omega) (by omega)) (by omega)
  have HT : Hid (Tab w.heap.size W10 changesT 10) := Lib.hid T10
  have HB : Hid (Below w.heap.size w W10) := Lib.hid ((((((((((B0.trans b1).trans b2).trans b3).trans b4).trans b5).trans b6).trans b7).trans b8).trans b9).trans b10)
  clear T0 B0 F T1 b1 T2 b2 T3 b3 T4 b4 T5 b5 T6 b6 T7 b7 T8 b8 T9 b9 T10 b10
  simp only [ints, List.map_cons, List.map_nil, List.length_cons, List.length_nil, Nat.zero_add, Nat.reduceAdd] at e1 e2 e3 e4 e5 e9 e10
  rw [show (w.alloc (.map #[] 0)).heap.size = w.heap.size + 1 by simp] at e1
  go_enter Try.func61, Try.ntmps61
  go_wp2_with (first | (go_at_call 65; refine (in_any _ _ _ _ _ rfl _).mono ?_; rintro e w' ⟨rfl, rfl⟩) | (go_at_call 71; refine (under_any _ _ _).mono ?_; rintro e w' ⟨rfl, rfl⟩))
  go_ret
  exact ⟨rfl, HT.out, HB.out⟩
end Go.Proofs.Ytchaeidmjoelnaa
