/-
  What package intent's fieldsOf answers: the fields of a Kind, out of a map that the call makes.
-/
import Derived.Test.YthombepmlepgfaaDoorGet
import Derived.Maps.OwnSet
import Derived.Maps.Views
namespace Go.Proofs.YthombepmlepgfaaDoor
open Go.RowKit

/-- An element reads as itself. -/
def heldR (v : Value) : Option (DataW Value × List MemPlace) := some (.held v, [])
def key (k : Int) : Lit := .int .i64 k
theorem key_keyed : Maps.Keyed Tryd.prog 3 := Maps.int_keyed Tryd.underlying3
theorem key_inj {a b : Int} (h : a ≠ b) : key a ≠ key b := by intro e; injection e with _ e; exact h e
theorem key_lit (k : Int) : WideAt.IsKeyLit (key k) := by simp [key, WideAt.IsKeyLit]
theorem key_of {k : Int} (h : Fits k) : keyOf Tryd.prog 3 (.int .i64 k) = some (key k) := Maps.keyOf_int_mk Tryd.underlying3 (by
  unfold Fits at h
  simp [Lit.wf, IntKind.min, IntKind.max, IntKind.signed, IntKind.bits]
  omega)

/-- The map in block B of W has just what T says. -/
structure Tab (w W : World) (T : Int → Option (List Int)) (n : Nat) : Prop where
  own : ∃ D, W.ownsMap Tryd.prog 3 heldR w.heap.size n D ∧ ∀ k, Maps.has D (key k) = (T k).isSome ∧ (T k = none → D.atKey (key k) (.held (.slice none 0 0)) = .held (.slice none 0 0)) ∧ ∀ xs, T k = some xs → ∃ v, D.atKey (key k) (.held (.slice none 0 0)) = .held v ∧ Vals W v (ints xs)
  below : Below w.heap.size w W
theorem Tab.made (w : World) : Tab w (w.alloc (.map #[] 0)) (fun _ => none) 0 :=
  ⟨⟨_, World.ownsMap_made w _ _ _, fun k => ⟨rfl, fun _ => rfl, fun xs h => by cases h⟩⟩, (Below.refl _ _).alloc (Nat.le_refl _) _⟩
theorem Vals.grown {W W' : World} {v : Value} {xs : List Value} {b : Nat} (h : Vals W v xs) (hg : W.grownBy W' (some b)) (hm : ∃ es c, W.heap[b]? = some (.map es c)) : Vals W' v xs := by
  rcases h with h | ⟨a, c, hv, hc, hb, hx⟩
  · exact .inl h
  · refine .inr ⟨a, c, hv, hc, fun h0 => Nat.lt_of_lt_of_le (hb h0) hg.size, fun k u hu => ?_⟩
    have h1 := hx k u hu
    have hk : k < xs.length := (List.getElem?_eq_some_iff.1 hu).1
    have hlt : (a.add k).block < W.heap.size := by rw [add_block]; exact hb (by omega)
    have hne : (a.add k).block ≠ b := by
      intro e
      obtain ⟨es, c, hm⟩ := hm
      rw [World.cell?, e, hm] at h1
      simp at h1
    rw [← h1, World.cell?, World.cell?, hg.block _ hlt (by intro e; injection e with e; exact hne e)]
theorem vals_lit (W : World) (xs : List Int) (t : TypeId) : Vals (W.alloc (.cells (ints xs).toArray t)) (.slice (some ⟨W.heap.size, 0, none⟩) xs.length xs.length) (ints xs) := by
  refine .inr ⟨_, _, by rw [ints_len], by rw [ints_len]; exact Nat.le_refl _, fun _ => by simp, fun k u hu => ?_⟩
  have hadd : (⟨W.heap.size, 0, none⟩ : Addr).add k = ⟨W.heap.size, k, none⟩ := by unfold Addr.add; split <;> simp_all
  rw [hadd, cell_of_row _ _ _ _ _ _ (MapKept.heap_alloc W _).1]
  simpa using hu
theorem Tab.store {w W : World} {T : Int → Option (List Int)} {n : Nat} (h : Tab w W T n) (k0 : Int) (xs : List Int) (hk : Fits k0) (hn : n < 1000) :
    ∃ W', (Instr.mapUpdate 63 (.map (some w.heap.size)) (.int .i64 k0) (.slice (some ⟨W.heap.size, 0, none⟩) xs.length xs.length)).run Tryd.prog (W.alloc (.cells (ints xs).toArray 52)) = .ok () W' ∧ Tab w W' (fun k => if k = k0 then some xs else T k) (n + 1) := by
  obtain ⟨⟨D, ho, hs⟩, hb⟩ := h
  have hlt := ho.lt
  obtain ⟨W', hrun, ho', hg⟩ := (ho.alloc (.cells (ints xs).toArray 52)).update key_keyed Tryd.underlying63 (by unfold maxLen; omega) (key_of hk) (d := .held (.slice (some ⟨W.heap.size, 0, none⟩) xs.length xs.length)) (ps := []) rfl
  have hm : ∃ es c, (W.alloc (.cells (ints xs).toArray 52)).heap[w.heap.size]? = some (.map es c) := by
    obtain ⟨es, c, h1, _⟩ := ho.alloc (.cells (ints xs).toArray 52)
    exact ⟨es, c, h1⟩
  refine ⟨W', hrun, ⟨_, ho', fun k => ?_⟩, below_grown (hb.alloc hb.size _) hg (fun k hk => by injection hk with hk; omega) (Nat.le_refl _)⟩
  by_cases e : k = k0
  · subst e
    refine ⟨by rw [Maps.has_put_same ho.isMap (key_lit _)]; simp, fun h => by simp at h, fun ys hy => ⟨_, Maps.atKey_put_same ho.isMap (key_lit _) _ _, ?_⟩⟩
    obtain rfl : xs = ys := by simpa using hy
    exact (vals_lit W xs 52).grown hg hm
  · rw [Maps.has_put_other (key_inj e), Maps.atKey_put_other (key_inj e), if_neg e]
    refine ⟨(hs k).1, (hs k).2.1, fun ys hy => ?_⟩
    obtain ⟨v, h1, h2⟩ := (hs k).2.2 ys hy
    exact ⟨v, h1, (h2.under ((Below.refl _ _).alloc (Nat.le_refl _) _)).grown hg hm⟩
theorem zero45 (W : World) : (zeroValue 45).run Tryd.prog W = .ok (.slice none 0 0) W := by
  have := Tryd.underlying45
  go_simp
theorem Tab.look {w W : World} {T : Int → Option (List Int)} {n : Nat} (h : Tab w W T n) (k : Int) (hk : Fits k) :
    ∃ v, (Instr.lookup 63 (.map (some w.heap.size)) (.int .i64 k) true).run Tryd.prog W = .ok (.tuple #[v, .bool (T k).isSome]) W ∧ Vals W v (ints ((T k).getD [])) := by
  obtain ⟨⟨D, ho, hs⟩, hb⟩ := h
  obtain ⟨v, ps, hrun, hv⟩ := ho.look_ok key_keyed Tryd.underlying63 (zero45 W) (zd := .held (.slice none 0 0)) (zp := []) rfl (key_of hk)
  obtain ⟨h1, h2, h3⟩ := hs k
  have hv' : DataW.held v = D.atKey (key k) (.held (.slice none 0 0)) := by
    unfold heldR at hv
    exact (Prod.mk.inj (Option.some.inj hv)).1
  refine ⟨v, by rw [hrun, h1], ?_⟩
  cases ht : T k with
  | none =>
    rw [h2 ht] at hv'
    injection hv' with e
    subst e
    exact .inl ⟨rfl, rfl⟩
  | some xs =>
    obtain ⟨u, h4, h5⟩ := h3 xs ht
    rw [h4] at hv'
    injection hv' with e
    subst e
    exact h5

/-- The fields of each Kind. -/
def kindT (k : Int) : Option (List Int) :=
  if k = 11 then some [6, 7, 8, 9, 10, 11, 12, 13, 14, 15, 16, 17] else if k = 10 then some [] else if k = 9 then some [5] else if k = 8 then some [3, 4] else if k = 7 then some [3] else if k = 6 then some [3] else if k = 5 then some [3] else if k = 4 then some [5] else if k = 3 then some [] else if k = 2 then some [] else if k = 1 then some [0, 1, 2] else none

/-- What a call leaves that answers a list and a bool. -/
def GotF (w : World) (k : Int) (e : Ending) (w' : World) : Prop := ∃ v, e = .returned (.tuple #[v, .bool (kindT k).isSome]) ∧ Vals w' v (ints ((kindT k).getD [])) ∧ Below w.heap.size w w'

set_option maxRecDepth 100000 in
set_option maxHeartbeats 2000000 in
theorem fieldsOf_any (k : Int) (w : World) (hk : Fits k) : Calls Tryd.prog 15 #[.int .i64 k] w (GotF w k) := by
  have hmm := @run_makeMap Tryd.prog
  have F : ∀ n : Int, 0 ≤ n → n ≤ 20 → Fits n := fun n h1 h2 => by unfold Fits; omega
  obtain ⟨W1, e1, T1⟩ := (Tab.made w).store 1 [0, 1, 2] (F _ (by omega) (by omega)) (by omega)
  obtain ⟨W2, e2, T2⟩ := T1.store 2 [] (F _ (by omega) (by omega)) (by omega)
  obtain ⟨W3, e3, T3⟩ := T2.store 3 [] (F _ (by omega) (by omega)) (by omega)
  obtain ⟨W4, e4, T4⟩ := T3.store 4 [5] (F _ (by omega) (by omega)) (by omega)
  obtain ⟨W5, e5, T5⟩ := T4.store 5 [3] (F _ (by omega) (by omega)) (by omega)
  obtain ⟨W6, e6, T6⟩ := T5.store 6 [3] (F _ (by omega) (by omega)) (by omega)
  obtain ⟨W7, e7, T7⟩ := T6.store 7 [3] (F _ (by omega) (by omega)) (by omega)
  obtain ⟨W8, e8, T8⟩ := T7.store 8 [3, 4] (F _ (by omega) (by omega)) (by omega)
  obtain ⟨W9, e9, T9⟩ := T8.store 9 [5] (F _ (by omega) (by omega)) (by omega)
  obtain ⟨W10, e10, T10⟩ := T9.store 10 [] (F _ (by omega) (by omega)) (by omega)
  obtain ⟨W11, e11, T11⟩ := T10.store 11 [6, 7, 8, 9, 10, 11, 12, 13, 14, 15, 16, 17] (F _ (by omega) (by omega)) (by omega)
  obtain ⟨v, ev, hv⟩ := T11.look k hk
  have HB := Lib.hid T11.below
  have HV : Hid (Vals W11 v (ints ((kindT k).getD []))) := Lib.hid hv
  have hT : (.bool (kindT k).isSome : Value) = .bool (kindT k).isSome := rfl
  change _ = Result.ok (Value.tuple #[v, .bool (kindT k).isSome]) W11 at ev
  obtain ⟨ok, hok⟩ : ∃ ok, ok = (kindT k).isSome := ⟨_, rfl⟩
  rw [← hok] at ev
  have HK := Lib.hid hok
  clear T1 T2 T3 T4 T5 T6 T7 T8 T9 T10 T11 hv hT hok F hk
  simp only [ints, List.map_cons, List.map_nil, List.length_cons, List.length_nil, Nat.zero_add, Nat.reduceAdd] at e1 e2 e3 e4 e5 e6 e7 e8 e9 e10 e11
  rw [show (w.alloc (.map #[] 0)).heap.size = w.heap.size + 1 by simp] at e1
  go_enter Tryd.func15, Tryd.ntmps15
  go_wp2
  go_ret2
  exact ⟨_, by rw [HK.out]; rfl, HV.out, HB.out⟩
end Go.Proofs.YthombepmlepgfaaDoor
