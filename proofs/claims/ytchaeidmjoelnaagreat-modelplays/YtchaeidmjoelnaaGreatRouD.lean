/-
  Slices of numbers and of acts that came in.
  The document's own router in memory: its block, its outcomes; Script.
  The document's own router in memory: Call.
  The document's own router in memory: Call, all ways joined.
-/
import Derived.Test.YtchaeidmjoelnaaGreatRepA
import Derived.Test.YtchaeidmjoelnaaGreatRows
import Derived.WalkKit
import Derived.Below
import Derived.Lib.Hide
import Derived.ChangeSame
import Derived.ChangeVars
import Derived.JoinedOf
import Derived.RowKit
import Derived.RowKitTokens
import Derived.LaidLaws
import Derived.Stop.Joined
import Derived.Carry
import Derived.ProofKit
import Derived.OpenShut
import Derived.ChangeMaps5
import Derived.Deep.Slices
import Derived.OneCell
import Derived.Test.YtchaeidmjoelnaaGreatFleA
import Derived.Test.YtchaeidmjoelnaaGreatFoC
import Derived.Test.YtchaeidmjoelnaaGreatFuse
import Derived.Deep.AppendLies
import Derived.Laws.AppendOwnNone
import Derived.Laws.OwnMore
import Derived.IntWalk
import Derived.Deep.Cut
import Derived.Great.BuildSlice
namespace Go.Proofs.YtchaeidmjoelnaaGreat
open Go.ChangeShapes Go.WideShapes Go.ChangeAt Go.RowKit

theorem k24 : Tryz.prog.cellsOf 40 = 1 := by kernel_rfl
theorem k45 : Tryz.prog.cellsOf 55 = 2 := by kernel_rfl
/-- A slice that came in. -/
def IntsI (W : World) (v : Value) (xs : List Int) : Prop :=
  ((v = .slice none 0 0 ∨ ∃ a c, v = .slice (some a) 0 c) ∧ xs = []) ∨ ∃ b o c, v = .slice (some ⟨b, o, none⟩) xs.length c ∧ 0 < xs.length ∧ xs.length ≤ c ∧ b < W.heap.size ∧ ∀ k (h : k < xs.length), W.cell? ⟨b, o + k, none⟩ = some (.int .i64 xs[k])
section
variable {H : Type} {enc : TypeId × Value → H} {W : World} {n : Nat}
/-- A slice of numbers. -/
theorem open_ints1 {v : Value} {x : DataW H × List MemPlace} (h : DataW.trod enc Tryz.prog W 0 (fun _ => true) true n 40 [v] = some x) : ∃ xs, IntsI W v xs ∧ ∀ x ∈ xs, Fits x := by
  rcases Go.Deep.open_slice Tryz.underlying40 h with ⟨h0, _⟩ | ⟨a', len, cap, m, k, D, Pl, h0, _, hl, hm, hmm, _, hcell⟩
  · obtain rfl : v = .slice none 0 0 := by simpa using h0
    exact ⟨[], .inl ⟨.inl rfl, rfl⟩, fun _ h => by cases h⟩
  · obtain rfl : v = .slice (some a') len cap := by simpa using h0
    rcases Nat.eq_zero_or_pos len with h5 | h5
    · subst h5
      exact ⟨[], .inl ⟨.inr ⟨_, _, rfl⟩, rfl⟩, fun _ h => by cases h⟩
    have hm' : m = cap := by simpa using hmm
    subst hm'
    have each : ∀ i, i < len → ∃ a : Int, W.cell? (a'.add i) = some (.int .i64 a) ∧ Fits a := by
      intro i hi
      obtain ⟨cs, c1, t1⟩ := hcell i (by omega)
      rw [k3] at c1
      obtain ⟨_, hlen, hc⟩ := World.cells?_some c1
      match cs, hlen with
      | [u], _ =>
        obtain ⟨a, rfl, hf⟩ := one_int t1
        have e := hc 0 (by omega)
        rw [Go.Deep.add_add] at e
        exact ⟨a, by simpa using e, hf⟩
    obtain ⟨q, hq⟩ := Go.Deep.choose_lt each
    obtain ⟨b, off, spot⟩ := a'
    have h1 := (hq 0 h5).1
    have hspot : spot = none := by simpa [Addr.add] using World.cell?_spot h1
    subst hspot
    have hadd := addr_add b off
    refine ⟨(List.range len).map q, .inr ⟨b, off, m, by simp, by simpa using h5, by simpa using hl, ?_, ?_⟩, ?_⟩
    · rw [hadd] at h1
      exact World.block_lt_of_cell? W _ h1
    · intro k hk
      have h2 := (hq k (by simpa using hk)).1
      rw [hadd] at h2
      simpa using h2
    · intro r hr
      obtain ⟨k, hk, rfl⟩ := List.mem_map.1 hr
      exact (hq k (by simpa using hk)).2
end
/-- A route that came in. -/
theorem open_pair {H : Type} {enc : TypeId × Value → H} {W : World} {n : Nat} {u v : Value} {x : DataW H × List MemPlace} (h : DataW.trod enc Tryz.prog W 0 (fun _ => true) true n 55 [u, v] = some x) : ∃ a b, u = .int .i64 a ∧ v = .int .i64 b ∧ Fits a ∧ Fits b := by
  obtain ⟨xs, k, hk, _, _, hxl, hfs⟩ := DataW.trod_struct Tryz.underlying55 h
  match xs, hxl with
  | [y0, y1], _ =>
    have g0 := hfs 0 _ rfl
    have g1 := hfs 1 _ rfl
    simp [k3] at g0 g1
    obtain ⟨x0, rfl, b0⟩ := one_int g0
    obtain ⟨x1, rfl, b1⟩ := one_int g1
    exact ⟨x0, x1, rfl, rfl, b0, b1⟩
end Go.Proofs.YtchaeidmjoelnaaGreat
namespace Go.Proofs.YtchaeidmjoelnaaGreat
open Go.RowKit

theorem ints_len (xs : List Int) : (ints xs).length = xs.length := List.length_map _
theorem ints_append (xs ys : List Int) : ints (xs ++ ys) = ints xs ++ ints ys := List.map_append ..
theorem ints_one (xs : List Int) : ∀ u ∈ ints xs, u.oneCell' = true := by
  intro u hu
  obtain ⟨x, _, rfl⟩ := List.mem_map.1 hu
  rfl
/-- What a router is. -/
structure Ro where
  slot : Int
  gen : Int
  outs : List Int
  writes : Int
/-- A slice that reads as these numbers, in memory of its own: its block is known whole. -/
def Own (W : World) (v : Value) (xs : List Int) : Prop := W.ownsRow 0 3 1 v xs.length (ints xs)
theorem IntsI.under {W W' : World} {v : Value} {xs : List Int} {B : Nat} (h : IntsI W v xs) (hb : Below B W W') (hB : W.heap.size ≤ B) : IntsI W' v xs := by
  rcases h with h | ⟨b, o, c, h1, h2, h3, h4, h5⟩
  · exact .inl h
  · exact .inr ⟨b, o, c, h1, h2, h3, Nat.lt_of_lt_of_le h4 hb.size, fun k h => (hb.cell (p := ⟨b, o + k, none⟩) (show b < B by omega)).trans (h5 k h)⟩
theorem Own.reads {W : World} {v : Value} {xs : List Int} (h : Own W v xs) : IntsI W v xs := by
  rcases h.2 with ⟨hv, hn⟩ | ⟨g, cap, cur, hv, _, hg, hn, hc, hs, ht⟩
  · exact .inl ⟨.inl hv, List.length_eq_zero_iff.1 hn⟩
  · cases xs with
    | nil => exact .inl ⟨.inr ⟨_, _, hv⟩, rfl⟩
    | cons x xs =>
      refine .inr ⟨g, 0, cap, hv, by simp, hn, lt_of_block hg, fun k hk => ?_⟩
      rw [cell_of_row W g _ cur 3 (0, 0) hg, Nat.zero_add]
      have h1 := ints_at (x :: xs) k hk
      rw [← ht, List.getElem?_take_of_lt (by omega)] at h1
      simpa using h1
noncomputable def ie3 : TypeInfo := (Tryz.prog.info? 3).get some3
theorem ie3_is : Tryz.prog.info? 3 = some ie3 := (Option.some_get some3).symm
theorem ie3_size : ie3.size = 1 := by kernel_rfl
theorem ie3_bytes : ie3.bytes = 8 := by kernel_rfl
theorem ie3_zero : ie3.zero = some (.int .i64 0) := by kernel_rfl
theorem append_ints {W : World} {base : Nat} {bv v : Value} {xs0 xs : List Int} (hown : W.ownsRow base 3 1 bv xs0.length (ints xs0)) (hv : IntsI W v xs) (hb : base ≤ W.heap.size) (hn : xs0.length + xs.length ≤ 100000000) :
    ∃ v' W', (Builtin.append_ #[40, 40] 40 #[bv, v]).run Tryz.prog W = .ok v' W' ∧ W'.ownsRow base 3 1 v' (xs0 ++ xs).length (ints (xs0 ++ xs)) ∧ W.grownBy W' bv.ownBlock := by
  rcases hv with ⟨rfl | ⟨a, c, rfl⟩, rfl⟩ | ⟨b, o, c, rfl, h1, h2, h3, h4⟩
  · exact ⟨bv, W, run_append_owned_none (P := Tryz.prog) W base 40 40 3 ie3 1 Tryz.underlying40 ie3_is bv xs0.length (ints xs0) hown, by simpa using hown, World.grownBy.refl W _⟩
  · obtain ⟨v', W', hr, ho, hg, _, _⟩ := run_append_own_at (P := Tryz.prog) W base 40 40 3 ie3 _ 1 8 Tryz.underlying40 ie3_is ie3_zero ie3_size ie3_bytes rfl (by decide) bv xs0.length (ints xs0) hown a 0 c [] rfl (fun j u h => by cases h) (fun u h => by cases h) (by unfold maxLen; omega) (by simp at hn ⊢; omega) hb
    exact ⟨v', W', hr, by simpa using ho, hg⟩
  · obtain ⟨v', W', hr, ho, hg, _, _⟩ := run_append_own_at (P := Tryz.prog) W base 40 40 3 ie3 _ 1 8 Tryz.underlying40 ie3_is ie3_zero ie3_size ie3_bytes rfl (by decide) bv xs0.length (ints xs0) hown ⟨b, o, none⟩ xs.length c (ints xs) (by rw [ints_len]; omega) (fun j u hu => by
      have hj : j < xs.length := by have := (List.getElem?_eq_some_iff.1 hu).1; rw [ints_len] at this; exact this
      rw [show (⟨b, o, none⟩ : Addr).add j = ⟨b, o + j, none⟩ by unfold Addr.add; split <;> simp_all, h4 j hj, ← hu]
      simp [ints, hj]) (ints_one xs) (by unfold maxLen; omega) (by omega) hb
    exact ⟨v', W', hr, by rw [List.length_append, ints_append]; exact ho, hg⟩
theorem build0 (W : World) : (Instr.buildSlice 40 0 #[]).run Tryz.prog W = .ok (.slice (some ⟨W.heap.size, 0, none⟩) 0 0) (W.alloc (.cells #[] 3)) := by
  simp [Instr.buildSlice, run_underlying Tryz.underlying40, sizeOf, typeInfo, ie3_is, newRow, Instr.fill]
  rw [show Array.range 0 = #[] from by kernel_rfl]
  simp
theorem own0 (W : World) {base : Nat} (hb : base ≤ W.heap.size) : (W.alloc (.cells #[] 3)).ownsRow base 3 1 (.slice (some ⟨W.heap.size, 0, none⟩) 0 0) ([] : List Int).length (ints []) :=
  ⟨rfl, .inr ⟨W.heap.size, 0, #[], rfl, hb, heap_alloc_new W _, Nat.le_refl _, by unfold maxLen; omega, rfl, rfl⟩⟩
theorem own_base {W : World} {base e : Nat} {v : Value} {n : Nat} {xs : List Value} (h : W.ownsRow base e 1 v n xs) : W.ownsRow 0 e 1 v n xs := by
  refine ⟨h.1, ?_⟩
  rcases h.2 with h | ⟨g, cap, cur, h1, _, h2⟩
  · exact .inl h
  · exact .inr ⟨g, cap, cur, h1, Nat.zero_le _, h2⟩
theorem own_ge {W : World} {base e : Nat} {v : Value} {n : Nat} {xs : List Value} (h : W.ownsRow base e 1 v n xs) : ∀ k, v.ownBlock = some k → base ≤ k ∧ k < W.heap.size := by
  intro k hk
  rcases h.2 with ⟨rfl, _⟩ | ⟨g, cap, cur, rfl, h1, h2, _⟩
  · cases hk
  · obtain rfl : g = k := by simpa [Value.ownBlock] using hk
    exact ⟨h1, lt_of_block h2⟩
theorem below_grown {B : Nat} {a w w' : World} {row : Option Nat} (h : Below B a w) (hg : w.grownBy w' row) (hr : ∀ k, row = some k → B ≤ k) (hB : B ≤ a.heap.size) : Below B a w' :=
  ⟨hg.os.trans h.os, hg.tape.trans h.tape, hg.output.trans h.output, Nat.le_trans h.size hg.size, fun k hk => by
    rw [hg.block k (by have := h.size; omega) (fun e => by have := hr k e.symm; omega)]
    exact h.block k hk⟩
/-- A router in memory: block b, its fuse in block g. -/
structure RoM (W : World) (b g : Nat) (v : Value) (s : Ro) : Prop where
  row : W.heap[b]? = some (.cells #[.int .i64 s.slot, .int .i64 s.gen, v, .int .i64 s.writes, .pointer (some ⟨g, 0, none⟩)] 80 (0, 0))
  own : Own W v s.outs
/-- The outcomes lie where they lay, or in new memory. -/
def New (w : World) (v v' : Value) : Prop := ∀ k, v'.ownBlock = some k → v.ownBlock = some k ∨ w.heap.size ≤ k
/-- Nothing but the blocks b and g turned, of those that were. -/
structure But (b g : Nat) (w w' : World) : Prop where
  os : w'.os = w.os
  tape : w'.tape = w.tape
  output : w'.output = w.output
  size : w.heap.size ≤ w'.heap.size
  block : ∀ k, k < w.heap.size → k ≠ b → k ≠ g → w'.heap[k]? = w.heap[k]?
theorem But.refl (b g : Nat) (w : World) : But b g w w := ⟨rfl, rfl, rfl, Nat.le_refl _, fun _ _ _ _ => rfl⟩
theorem But.trans {b g : Nat} {w w' w'' : World} (h : But b g w w') (k : But b g w' w'') : But b g w w'' :=
  ⟨k.os.trans h.os, k.tape.trans h.tape, k.output.trans h.output, Nat.le_trans h.size k.size, fun j hj h1 h2 => (k.block j (Nat.lt_of_lt_of_le hj h.size) h1 h2).trans (h.block j hj h1 h2)⟩
theorem But.of_below {b g : Nat} {w w' : World} (h : Below w.heap.size w w') : But b g w w' := ⟨h.os, h.tape, h.output, h.size, fun k hk _ _ => h.block k hk⟩
theorem But.set {b g : Nat} {w w' : World} (h : But b g w w') (i : Nat) (u : Value) : But b g w (w'.setCell ⟨b, i, none⟩ u) :=
  ⟨h.os, h.tape, h.output, by simpa [World.setCell] using h.size, fun k hk h1 h2 => (Below.heap_setCell w' ⟨b, i, none⟩ u k h1).trans (h.block k hk h1 h2)⟩
theorem But.only {b g : Nat} {w w' : World} (h : Only g w w') : But b g w w' := ⟨h.os, h.tape, h.output, by rw [h.size]; exact Nat.le_refl _, fun k _ _ h2 => h.block k h2⟩
theorem But.below {b g B : Nat} {a w w' : World} (h : But b g w w') (hb : Below B a w) (h1 : B ≤ b) (h2 : B ≤ g) (hB : B ≤ w.heap.size) : Below B a w' :=
  ⟨h.os.trans hb.os, h.tape.trans hb.tape, h.output.trans hb.output, Nat.le_trans hb.size h.size, fun k hk => (h.block k (by omega) (by omega) (by omega)).trans (hb.block k hk)⟩
theorem Own.block {W W' : World} {v : Value} {xs : List Int} (h : Own W v xs) (hk : ∀ k, k < W.heap.size → (∃ cur, W.heap[k]? = some (.cells cur 3 (0, 0))) → W'.heap[k]? = W.heap[k]?) : Own W' v xs := by
  refine ⟨h.1, ?_⟩
  rcases h.2 with h | ⟨g, cap, cur, h1, h2, h3, h4⟩
  · exact .inl h
  · exact .inr ⟨g, cap, cur, h1, h2, (hk g (lt_of_block h3) ⟨cur, h3⟩).trans h3, h4⟩
set_option maxRecDepth 100000 in
set_option maxHeartbeats 4000000 in
theorem mscript_any (b g : Nat) (s : Ro) (l : Value) (xs : List Int) (v : Value) (w : World) (h : RoM w b g v s) (hl : IntsI w l xs) (hn : s.outs.length + xs.length ≤ 100000000) : Calls Tryz.prog 33 #[.pointer (some ⟨b, 0, none⟩), l] w fun e w' => e = .returned (.tuple #[]) ∧ (∃ v', RoM w' b g v' { s with outs := s.outs ++ xs } ∧ New w v v') ∧ But b b w w' := by
  obtain ⟨hrow, hown⟩ := h
  have hblt := lt_of_block hrow
  have bs0 := build0
  have ba : Below w.heap.size w (w.alloc (.cells #[] 3)) := (Below.refl _ _).alloc (Nat.le_refl _) _
  obtain ⟨v1, W1, e1, o1, g1⟩ := append_ints (own0 w (Nat.le_refl _)) (hown.reads.under ba (Nat.le_refl _)) (Nat.le_of_lt (by simp)) (by simp; omega)
  rw [List.nil_append] at o1
  have b1 := below_grown ba g1 (fun k hk => by simp [Value.ownBlock] at hk; omega) (Nat.le_refl _)
  obtain ⟨v2, W2, e2, o2, g2⟩ := append_ints o1 (hl.under b1 (Nat.le_refl _)) (b1.size) hn
  have b2 := below_grown b1 g2 (fun k hk => (own_ge o1 k hk).1) (Nat.le_refl _)
  have hrow2 : W2.heap[b]? = some (.cells #[.int .i64 s.slot, .int .i64 s.gen, v, .int .i64 s.writes, .pointer (some ⟨g, 0, none⟩)] 80 (0, 0)) := (b2.block b hblt).trans hrow
  have c2 : (w.alloc (.cells #[] 3)).cell? ⟨b, 2, none⟩ = some v := (ba.cell (p := ⟨b, 2, none⟩) hblt).trans (by rw [cell_of_row w b 2 _ _ _ hrow]; rfl)
  have d2 : W2.cell? ⟨b, 2, none⟩ = some v := by rw [cell_of_row W2 b 2 _ _ _ hrow2]; rfl
  have f2 : W2.frozen? ⟨b, 2, none⟩ = false := by simp [World.frozen?, hrow2]
  have HF : Hid ((∃ v', RoM (W2.setCell ⟨b, 2, none⟩ v2) b g v' { s with outs := s.outs ++ xs } ∧ New w v v') ∧ But b b w (W2.setCell ⟨b, 2, none⟩ v2)) := Lib.hid ⟨⟨v2, ⟨heap_setCell_same _ _ 2 _ 80 v2 hrow2, Own.block (own_base o2) (fun k _ ⟨cur, hk⟩ => Below.heap_setCell _ _ _ _ (by
      show k ≠ b
      intro e
      subst e
      rw [hk] at hrow2
      simp at hrow2))⟩, fun k hk => .inr (own_ge o2 k hk).1⟩, (But.of_below b2).set 2 v2⟩
  have hv : ∃ A n c, v = .slice A n c := by
    rcases hown.2 with ⟨rfl, _⟩ | ⟨_, _, _, rfl, _⟩ <;> exact ⟨_, _, _, rfl⟩
  have hv2 : ∃ A n c, v2 = .slice A n c := by
    rcases o2.2 with ⟨rfl, _⟩ | ⟨_, _, _, rfl, _⟩ <;> exact ⟨_, _, _, rfl⟩
  obtain ⟨A, n, c, rfl⟩ := hv
  obtain ⟨A2, n2, c2', rfl⟩ := hv2
  clear hl hn hrow hown ba o1 g1 b1 o2 g2 b2 hrow2
  have E1 := Lib.hid e1
  have E2 := Lib.hid e2
  clear e1 e2
  go_enter Tryz.func33, Tryz.ntmps33
  go_wp2_with (first | (at_builtin; refine wpList_append_is rfl (.tmp 5) (.tmp 9) 40 rfl rfl rfl E1.out ?_) | (at_builtin; refine wpList_append_is rfl (.tmp 10) (.tmp 11) 40 rfl rfl rfl E2.out ?_))
  go_end0
  exact ⟨rfl, HF.out⟩
end Go.Proofs.YtchaeidmjoelnaaGreat
namespace Go.Proofs.YtchaeidmjoelnaaGreat
open Go.RowKit

theorem slice_one (W : World) (Ad : Option Addr) (n cp : Nat) (h : 1 ≤ n) : (Instr.slice 40 (.slice Ad n cp) (some (.int .i64 1)) none none).run Tryz.prog W = .ok (.slice (if cp = 1 then Ad else Ad.map (·.add (1 * 1))) (n - 1) (cp - 1)) W := by
  have h1 : (1 : Int) ≤ (n : Int) := by omega
  simp [Instr.slice, run_underlying Tryz.underlying40, Instr.sliceBounds, Instr.sliceBound, asIntOf, sizeOf, typeInfo, ie3_is, ie3_size, h1]
theorem own_tail {W : World} {v : Value} {x : Int} {xs : List Int} (h : Own W v (x :: xs)) : ∃ e c, v = .slice (some ⟨e, 0, none⟩) (xs.length + 1) c ∧ W.cell? ⟨e, 0, none⟩ = some (.int .i64 x) ∧ ∃ v1, (∀ W', (Instr.slice 40 v (some (.int .i64 1)) none none).run Tryz.prog W' = .ok v1 W') ∧ IntsI W v1 xs := by
  have hr := h.reads
  rcases h.2 with ⟨_, hn⟩ | ⟨g, cap, cur, rfl, _, hg, hn, hc, hs, ht⟩
  · cases hn
  · rcases hr with ⟨_, h0⟩ | ⟨b, o, c, he, _, h2, h3, h4⟩
    · cases h0
    · injection he with he1 he2 he3
      injection he1 with he1
      injection he1 with e1 e2 e3
      subst e1 e2 he3
      refine ⟨g, cap, rfl, by have := h4 0 (by simp); simpa using this, _, fun W' => slice_one W' _ _ _ (by simp), ?_⟩
      simp only [List.length_cons, Nat.add_sub_cancel]
      rcases Nat.eq_zero_or_pos xs.length with hz | hp
      · obtain rfl : xs = [] := List.length_eq_zero_iff.1 hz
        refine .inl ⟨.inr ?_, rfl⟩
        split
        · exact ⟨_, _, rfl⟩
        · exact ⟨_, _, rfl⟩
      · have hc1 : cap ≠ 1 := by simp at hn; omega
        rw [if_neg hc1]
        refine .inr ⟨g, 1, cap - 1, by simp [Addr.add], hp, by simp at hn; omega, h3, fun k hk => ?_⟩
        have h5 := h4 (k + 1) (by simp; omega)
        simp only [Nat.zero_add, List.getElem_cons_succ] at h5
        rw [Nat.add_comm 1 k]
        exact h5
/-- What a call leaves of a router whose fuse bears it, and what it tells. -/
def outS (s : Ro) : Int := s.outs.headD 0
def callS (s : Ro) (gen slot : Int) : Ro := if outS s = 2 then { s with outs := s.outs.tail } else if s.gen < gen then ⟨slot, gen, s.outs.tail, s.writes + 1⟩ else { s with outs := s.outs.tail }
def callE (s : Ro) (gen slot : Int) : Int := if outS s = 2 then 10 else if outS s = 1 then 10 else if s.gen < gen then 0 else if gen < s.gen ∨ slot ≠ s.slot then 11 else 0
def inRange (gen slot : Int) : Prop := 0 ≤ slot ∧ slot ≤ 1 ∧ 1 ≤ gen ∧ gen ≤ 1048576
set_option maxRecDepth 100000 in
set_option maxHeartbeats 4000000 in
theorem mcall_range (b : Nat) (gen slot : Int) (w : World) (hr : ¬ inRange gen slot) : Calls Tryz.prog 59 #[.pointer (some ⟨b, 0, none⟩), .int .i64 gen, .int .i64 slot] w fun e w' => e = .returned (.int .i64 1) ∧ w' = w := by
  unfold inRange at hr
  by_cases h1 : slot < 0
  · have e1 : decide (slot < 0) = true := by simpa using h1
    clear h1 hr
    go_enter Tryz.func59, Tryz.ntmps59
    go_wp2
    go_ret
    exact ⟨rfl, rfl⟩
  have e1 : decide (slot < 0) = false := by simpa using h1
  by_cases h2 : 1 < slot
  · have e2 : decide (1 < slot) = true := by simpa using h2
    clear h1 h2 hr
    go_enter Tryz.func59, Tryz.ntmps59
    go_wp2
    go_ret
    exact ⟨rfl, rfl⟩
  have e2 : decide (1 < slot) = false := by simpa using h2
  by_cases h3 : gen < 1
  · have e3 : decide (gen < 1) = true := by simpa using h3
    clear h1 h2 h3 hr
    go_enter Tryz.func59, Tryz.ntmps59
    go_wp2
    go_ret
    exact ⟨rfl, rfl⟩
  have e3 : decide (gen < 1) = false := by simpa using h3
  have e4 : decide (1048576 < gen) = true := decide_eq_true (by omega)
  clear h1 h2 h3 hr
  go_enter Tryz.func59, Tryz.ntmps59
  go_wp2
  go_ret
  exact ⟨rfl, rfl⟩
set_option maxRecDepth 100000 in
set_option maxHeartbeats 4000000 in
theorem mcall_halt (b g : Nat) (s : Ro) (fu fu' : Fu) (gen slot : Int) (v : Value) (w : World) (h : RoM w b g v s) (hf : Fz w g 78 fu) (hbg : b ≠ g) (hr : inRange gen slot) (hsp : ∀ W, Fz W g 78 fu → Calls Tryz.prog 79 #[.pointer (some ⟨g, 0, none⟩)] W fun e w' => e = .returned (.bool false) ∧ Fz w' g 78 fu' ∧ Only g W w') : Calls Tryz.prog 59 #[.pointer (some ⟨b, 0, none⟩), .int .i64 gen, .int .i64 slot] w fun e w' => e = .returned (.int .i64 2) ∧ (∃ v', RoM w' b g v' s ∧ New w v v') ∧ Fz w' g 78 fu' ∧ But b g w w' := by
  unfold inRange at hr
  obtain ⟨hrow, hown⟩ := h
  have hblt := lt_of_block hrow
  have e1 : decide (slot < 0) = false := decide_eq_false (by omega)
  have e2 : decide (1 < slot) = false := decide_eq_false (by omega)
  have e3 : decide (gen < 1) = false := decide_eq_false (by omega)
  have e4 : decide (1048576 < gen) = false := decide_eq_false (by omega)
  have c4 : w.cell? ⟨b, 4, none⟩ = some (.pointer (some ⟨g, 0, none⟩)) := by rw [cell_of_row w b 4 _ _ _ hrow]; rfl
  have HS := Lib.hid (hsp w hf)
  have HK : Hid (∀ w1, Fz w1 g 78 fu' → Only g w w1 → (∃ v', RoM w1 b g v' s ∧ New w v v') ∧ Fz w1 g 78 fu' ∧ But b g w w1) := Lib.hid (fun w1 hf1 ho => ⟨⟨v, ⟨(ho.block b hbg).trans hrow, hown.block (fun k _ ⟨cur, hk⟩ => ho.block k (by
    intro e
    subst e
    unfold Fz at hf
    rw [hk] at hf
    simp at hf))⟩, fun _ h => .inl h⟩, hf1, But.only ho⟩)
  clear hf hr hsp hrow hown hblt
  go_enter Tryz.func59, Tryz.ntmps59
  go_wp2_with fail
  refine HS.out.mono ?_
  rintro e w1 ⟨rfl, hf1, ho⟩
  have HZ := Lib.hid (HK.out w1 hf1 ho)
  clear hf1 ho HK
  go_wp2
  go_ret
  exact ⟨rfl, HZ.out⟩
set_option maxRecDepth 100000 in
set_option maxHeartbeats 4000000 in
theorem mcall_nil (b g : Nat) (s : Ro) (fu fu' : Fu) (gen slot : Int) (v : Value) (w : World) (h : RoM w b g v s) (hf : Fz w g 78 fu) (hbg : b ≠ g) (hr : inRange gen slot) (hsp : ∀ W, Fz W g 78 fu → Calls Tryz.prog 79 #[.pointer (some ⟨g, 0, none⟩)] W fun e w' => e = .returned (.bool true) ∧ Fz w' g 78 fu' ∧ Only g W w') (hwr : 0 ≤ s.writes ∧ s.writes ≤ 1000000) (ho0 : s.outs = []) : Calls Tryz.prog 59 #[.pointer (some ⟨b, 0, none⟩), .int .i64 gen, .int .i64 slot] w fun e w' => e = .returned (.int .i64 (callE s gen slot)) ∧ (∃ v', RoM w' b g v' (callS s gen slot) ∧ New w v v') ∧ Fz w' g 78 fu' ∧ But b g w w' := by
  unfold inRange at hr
  obtain ⟨hrow, hown⟩ := h
  have hblt := lt_of_block hrow
  have e1 : decide (slot < 0) = false := decide_eq_false (by omega)
  have e2 : decide (1 < slot) = false := decide_eq_false (by omega)
  have e3 : decide (gen < 1) = false := decide_eq_false (by omega)
  have e4 : decide (1048576 < gen) = false := decide_eq_false (by omega)
  have c4 : w.cell? ⟨b, 4, none⟩ = some (.pointer (some ⟨g, 0, none⟩)) := by rw [cell_of_row w b 4 _ _ _ hrow]; rfl
  have HS := Lib.hid (hsp w hf)
  have HWR := Lib.hid hwr
  have HBG := Lib.hid hbg
  have HO : Hid (outS s = 0) := Lib.hid (by unfold outS; rw [ho0]; rfl)
  have HTL : Hid (s.outs.tail = []) := Lib.hid (by rw [ho0]; rfl)
  clear hr hsp
  go_enter Tryz.func59, Tryz.ntmps59
  go_wp2_with fail
  refine HS.out.mono ?_
  rintro e w1 ⟨rfl, hf1, ho⟩
  have hrow1 : w1.heap[b]? = some (.cells #[.int .i64 s.slot, .int .i64 s.gen, v, .int .i64 s.writes, .pointer (some ⟨g, 0, none⟩)] 80 (0, 0)) := (ho.block b hbg).trans hrow
  have hown1 : Own w1 v s.outs := hown.block (fun k _ ⟨cur, hk⟩ => ho.block k (by
    intro e
    subst e
    unfold Fz at hf
    rw [hk] at hf
    simp at hf))
  have hbut := But.only (b := b) ho
  clear hrow hown hf ho c4 e1 e2 e3 e4 HS hblt
  rw [ho0] at hown1
  have hv : ∃ A c, v = .slice A 0 c := by
    rcases hown1.2 with ⟨rfl, _⟩ | ⟨_, _, _, rfl, _⟩ <;> exact ⟨_, _, rfl⟩
  obtain ⟨Ad, cp, rfl⟩ := hv
  have c2 : w1.cell? ⟨b, 2, none⟩ = some (.slice Ad 0 cp) := by rw [cell_of_row w1 b 2 _ _ _ hrow1]; rfl
  have RW1 := Lib.hid hrow1
  have OW1 := Lib.hid hown1
  have FW1 := Lib.hid hf1
  have BW1 := Lib.hid hbut
  clear hrow1 hown1 hf1 hbut ho0 hwr
  go_upto_region 9 with (fail)
  clear c2
  refine name_w (fun W => ∃ v2, W.heap[b]? = some (.cells #[.int .i64 s.slot, .int .i64 s.gen, v2, .int .i64 s.writes, .pointer (some ⟨g, 0, none⟩)] 80 (0, 0)) ∧ Own W v2 s.outs.tail ∧ Fz W g 78 fu' ∧ But b g w W ∧ New w (.slice Ad 0 cp) v2) ⟨_, RW1.out, by rw [HTL.out]; exact OW1.out, FW1.out, BW1.out, fun _ h => .inl h⟩ ?_
  rintro W ⟨v2, h1, h2, h3, h4, h5⟩
  have RW := Lib.hid h1
  have OW := Lib.hid h2
  have FW := Lib.hid h3
  have BW := Lib.hid h4
  have NW := Lib.hid h5
  clear h1 h2 h3 h4 h5
  have n2 : Hid (¬ outS s = 2) := Lib.hid (by rw [HO.out]; decide)
  have n1 : Hid (¬ outS s = 1) := Lib.hid (by rw [HO.out]; decide)
  by_cases hg : s.gen < gen
  case pos =>
    have f3 : decide (s.gen < gen) = true := by simpa using hg
    have HC : Hid (callS s gen slot = ⟨slot, gen, s.outs.tail, s.writes + 1⟩) := Lib.hid (by unfold callS; rw [if_neg n2.out, if_pos hg])
    have HE : Hid (callE s gen slot = 0) := Lib.hid (by unfold callE; rw [if_neg n2.out, if_neg n1.out, if_pos hg])
    clear hg
    have c0 : W.cell? ⟨b, 0, none⟩ = some (.int .i64 s.slot) := by rw [cell_of_row W b 0 _ _ _ RW.out]; rfl
    have c1 : W.cell? ⟨b, 1, none⟩ = some (.int .i64 s.gen) := by rw [cell_of_row W b 1 _ _ _ RW.out]; rfl
    have c3 : W.cell? ⟨b, 3, none⟩ = some (.int .i64 s.writes) := by rw [cell_of_row W b 3 _ _ _ RW.out]; rfl
    have q0 : W.frozen? ⟨b, 0, none⟩ = false := by simp [World.frozen?, show W.heap[b]? = _ from RW.out]
    have q1 : W.frozen? ⟨b, 1, none⟩ = false := by simp [World.frozen?, show W.heap[b]? = _ from RW.out]
    have q3 : W.frozen? ⟨b, 3, none⟩ = false := by simp [World.frozen?, show W.heap[b]? = _ from RW.out]
    have ew : IntKind.i64.wrap (s.writes + 1) = s.writes + 1 := IntWalk.i64_in _ (by have := HWR.out; omega)
    have RX := Lib.hid (heap_setCell_same _ _ 3 _ 80 (.int .i64 (s.writes + 1)) (heap_setCell_same _ _ 0 _ 80 (.int .i64 slot) (heap_setCell_same _ _ 1 _ 80 (.int .i64 gen) RW.out)))
    have OX : Hid (Own (((W.setCell ⟨b, 1, none⟩ (.int .i64 gen)).setCell ⟨b, 0, none⟩ (.int .i64 slot)).setCell ⟨b, 3, none⟩ (.int .i64 (s.writes + 1))) v2 s.outs.tail) := Lib.hid (OW.out.block (fun k _ ⟨cur, hk⟩ => by
      have hne : k ≠ b := by
        intro e
        subst e
        have h1 := RW.out
        rw [hk] at h1
        simp at h1
      rw [Below.heap_setCell _ _ _ _ hne, Below.heap_setCell _ _ _ _ hne, Below.heap_setCell _ _ _ _ hne]))
    have FX : Hid (Fz (((W.setCell ⟨b, 1, none⟩ (.int .i64 gen)).setCell ⟨b, 0, none⟩ (.int .i64 slot)).setCell ⟨b, 3, none⟩ (.int .i64 (s.writes + 1))) g 78 fu') := Lib.hid (by
      unfold Fz
      rw [Below.heap_setCell _ _ _ _ (Ne.symm HBG.out), Below.heap_setCell _ _ _ _ (Ne.symm HBG.out), Below.heap_setCell _ _ _ _ (Ne.symm HBG.out)]
      exact FW.out)
    have BX := Lib.hid (((BW.out.set 1 (.int .i64 gen)).set 0 (.int .i64 slot)).set 3 (.int .i64 (s.writes + 1)))
    clear RW OW FW BW
    go_wp2
    go_ret
    exact ⟨by rw [HE.out]; rfl, by rw [HC.out]; exact ⟨v2, ⟨RX.out, OX.out⟩, NW.out⟩, FX.out, BX.out⟩
  have f3 : decide (s.gen < gen) = false := by simpa using hg
  have HC : Hid (callS s gen slot = { s with outs := s.outs.tail }) := Lib.hid (by unfold callS; rw [if_neg n2.out, if_neg hg])
  by_cases hl : gen < s.gen
  case pos =>
    have f4 : decide (gen < s.gen) = true := by simpa using hl
    have HE : Hid (callE s gen slot = 11) := Lib.hid (by unfold callE; rw [if_neg n2.out, if_neg n1.out, if_neg hg, if_pos (Or.inl hl)])
    clear hg hl
    have c0 : W.cell? ⟨b, 0, none⟩ = some (.int .i64 s.slot) := by rw [cell_of_row W b 0 _ _ _ RW.out]; rfl
    have c1 : W.cell? ⟨b, 1, none⟩ = some (.int .i64 s.gen) := by rw [cell_of_row W b 1 _ _ _ RW.out]; rfl
    go_wp2
    go_ret
    exact ⟨by rw [HE.out]; rfl, by rw [HC.out]; exact ⟨v2, ⟨RW.out, OW.out⟩, NW.out⟩, FW.out, BW.out⟩
  have f4 : decide (gen < s.gen) = false := by simpa using hl
  by_cases hs : slot = s.slot
  case neg =>
    have f5 : (slot != s.slot) = true := by simpa using hs
    have HE : Hid (callE s gen slot = 11) := Lib.hid (by unfold callE; rw [if_neg n2.out, if_neg n1.out, if_neg hg, if_pos (Or.inr hs)])
    clear hg hl hs
    have c0 : W.cell? ⟨b, 0, none⟩ = some (.int .i64 s.slot) := by rw [cell_of_row W b 0 _ _ _ RW.out]; rfl
    have c1 : W.cell? ⟨b, 1, none⟩ = some (.int .i64 s.gen) := by rw [cell_of_row W b 1 _ _ _ RW.out]; rfl
    go_wp2
    go_ret
    exact ⟨by rw [HE.out]; rfl, by rw [HC.out]; exact ⟨v2, ⟨RW.out, OW.out⟩, NW.out⟩, FW.out, BW.out⟩
  have f5 : (slot != s.slot) = false := by simpa using hs
  have HE : Hid (callE s gen slot = 0) := Lib.hid (by unfold callE; rw [if_neg n2.out, if_neg n1.out, if_neg hg, if_neg (fun h => h.elim hl (fun h => h hs))])
  clear hg hl hs
  have c0 : W.cell? ⟨b, 0, none⟩ = some (.int .i64 s.slot) := by rw [cell_of_row W b 0 _ _ _ RW.out]; rfl
  have c1 : W.cell? ⟨b, 1, none⟩ = some (.int .i64 s.gen) := by rw [cell_of_row W b 1 _ _ _ RW.out]; rfl
  go_wp2
  go_ret
  exact ⟨by rw [HE.out]; rfl, by rw [HC.out]; exact ⟨v2, ⟨RW.out, OW.out⟩, NW.out⟩, FW.out, BW.out⟩
set_option maxRecDepth 100000 in
set_option maxHeartbeats 4000000 in
theorem mcall_cons (b g : Nat) (s : Ro) (fu fu' : Fu) (gen slot : Int) (v : Value) (w : World) (h : RoM w b g v s) (hf : Fz w g 78 fu) (hbg : b ≠ g) (hr : inRange gen slot) (hsp : ∀ W, Fz W g 78 fu → Calls Tryz.prog 79 #[.pointer (some ⟨g, 0, none⟩)] W fun e w' => e = .returned (.bool true) ∧ Fz w' g 78 fu' ∧ Only g W w') (hwr : 0 ≤ s.writes ∧ s.writes ≤ 1000000) (x : Int) (xs : List Int) (ho0 : s.outs = x :: xs) (hlen : xs.length ≤ 100000) : Calls Tryz.prog 59 #[.pointer (some ⟨b, 0, none⟩), .int .i64 gen, .int .i64 slot] w fun e w' => e = .returned (.int .i64 (callE s gen slot)) ∧ (∃ v', RoM w' b g v' (callS s gen slot) ∧ New w v v') ∧ Fz w' g 78 fu' ∧ But b g w w' := by
  unfold inRange at hr
  obtain ⟨hrow, hown⟩ := h
  have hblt := lt_of_block hrow
  have e1 : decide (slot < 0) = false := decide_eq_false (by omega)
  have e2 : decide (1 < slot) = false := decide_eq_false (by omega)
  have e3 : decide (gen < 1) = false := decide_eq_false (by omega)
  have e4 : decide (1048576 < gen) = false := decide_eq_false (by omega)
  have c4 : w.cell? ⟨b, 4, none⟩ = some (.pointer (some ⟨g, 0, none⟩)) := by rw [cell_of_row w b 4 _ _ _ hrow]; rfl
  have HS := Lib.hid (hsp w hf)
  have HWR := Lib.hid hwr
  have HBG := Lib.hid hbg
  have HO : Hid (outS s = x) := Lib.hid (by unfold outS; rw [ho0]; rfl)
  have HTL : Hid (s.outs.tail = xs) := Lib.hid (by rw [ho0]; rfl)
  clear hr hsp
  go_enter Tryz.func59, Tryz.ntmps59
  go_wp2_with fail
  refine HS.out.mono ?_
  rintro e w1 ⟨rfl, hf1, ho⟩
  have hrow1 : w1.heap[b]? = some (.cells #[.int .i64 s.slot, .int .i64 s.gen, v, .int .i64 s.writes, .pointer (some ⟨g, 0, none⟩)] 80 (0, 0)) := (ho.block b hbg).trans hrow
  have hown1 : Own w1 v s.outs := hown.block (fun k _ ⟨cur, hk⟩ => ho.block k (by
    intro e
    subst e
    unfold Fz at hf
    rw [hk] at hf
    simp at hf))
  have hbut := But.only (b := b) ho
  clear hrow hown hf ho c4 e1 e2 e3 e4 HS hblt
  rw [ho0] at hown1
  obtain ⟨e, c, rfl, ce, v1, es, hv1⟩ := own_tail hown1
  have c2 : w1.cell? ⟨b, 2, none⟩ = some (.slice (some ⟨e, 0, none⟩) (xs.length + 1) c) := by rw [cell_of_row w1 b 2 _ _ _ hrow1]; rfl
  have bs0 := build0
  have hb1 := lt_of_block hrow1
  have ba : Below w1.heap.size w1 (w1.alloc (.cells #[] 3)) := (Below.refl _ _).alloc (Nat.le_refl _) _
  obtain ⟨v2, W2, ea, o2, g2⟩ := append_ints (own0 w1 (Nat.le_refl _)) (hv1.under ba (Nat.le_refl _)) (Nat.le_of_lt (by simp)) (by simp; omega)
  rw [List.nil_append] at o2
  have b2 := below_grown ba g2 (fun k hk => by simp [Value.ownBlock] at hk; omega) (Nat.le_refl _)
  have hrow2 : W2.heap[b]? = some (.cells #[.int .i64 s.slot, .int .i64 s.gen, .slice (some ⟨e, 0, none⟩) (xs.length + 1) c, .int .i64 s.writes, .pointer (some ⟨g, 0, none⟩)] 80 (0, 0)) := (b2.block b hb1).trans hrow1
  have k2 : (w1.alloc (.cells #[] 3)).cell? ⟨b, 2, none⟩ = some (.slice (some ⟨e, 0, none⟩) (xs.length + 1) c) := (ba.cell (p := ⟨b, 2, none⟩) hb1).trans c2
  have d2 : W2.cell? ⟨b, 2, none⟩ = some (.slice (some ⟨e, 0, none⟩) (xs.length + 1) c) := by rw [cell_of_row W2 b 2 _ _ _ hrow2]; rfl
  have f2 : W2.frozen? ⟨b, 2, none⟩ = false := by simp [World.frozen?, hrow2]
  have hvv : ∃ A n c, v2 = .slice A n c := by
    rcases o2.2 with ⟨rfl, _⟩ | ⟨_, _, _, rfl, _⟩ <;> exact ⟨_, _, _, rfl⟩
  have HM : Hid ((W2.setCell ⟨b, 2, none⟩ v2).heap[b]? = some (.cells #[.int .i64 s.slot, .int .i64 s.gen, v2, .int .i64 s.writes, .pointer (some ⟨g, 0, none⟩)] 80 (0, 0)) ∧ Own (W2.setCell ⟨b, 2, none⟩ v2) v2 xs ∧ Fz (W2.setCell ⟨b, 2, none⟩ v2) g 78 fu' ∧ But b g w (W2.setCell ⟨b, 2, none⟩ v2) ∧ New w (.slice (some ⟨e, 0, none⟩) (xs.length + 1) c) v2) := Lib.hid ⟨heap_setCell_same _ _ 2 _ 80 v2 hrow2, Own.block (own_base o2) (fun k _ ⟨cur, hk⟩ => Below.heap_setCell _ _ _ _ (by
      show k ≠ b
      intro e
      subst e
      rw [hk] at hrow2
      simp at hrow2)), (Below.heap_setCell _ _ _ _ (Ne.symm hbg)).trans ((b2.block g hf1.lt).trans hf1), (hbut.trans (But.of_below b2)).set 2 v2, fun k hk => .inr (Nat.le_trans hbut.size (own_ge o2 k hk).1)⟩
  obtain ⟨A2, n2, cp2, rfl⟩ := hvv
  have E1 := Lib.hid ea
  clear hrow1 hown1 hf1 hbut ho0 hwr hv1 ba o2 g2 b2 hrow2 ea hb1 hbg hlen
  go_upto_region 9 with (at_builtin; refine wpList_append_is rfl (.tmp 42) (.tmp 47) 40 rfl rfl rfl E1.out ?_)
  clear c2 k2 d2 f2 es ce bs0
  refine name_w (fun W => ∃ v2, W.heap[b]? = some (.cells #[.int .i64 s.slot, .int .i64 s.gen, v2, .int .i64 s.writes, .pointer (some ⟨g, 0, none⟩)] 80 (0, 0)) ∧ Own W v2 s.outs.tail ∧ Fz W g 78 fu' ∧ But b g w W ∧ New w (.slice (some ⟨e, 0, none⟩) (xs.length + 1) c) v2) ⟨_, HM.out.1, by rw [HTL.out]; exact HM.out.2.1, HM.out.2.2.1, HM.out.2.2.2.1, HM.out.2.2.2.2⟩ ?_
  clear HM E1
  rintro W ⟨v2, h1, h2, h3, h4, h5⟩
  have RW := Lib.hid h1
  have OW := Lib.hid h2
  have FW := Lib.hid h3
  have BW := Lib.hid h4
  have NW := Lib.hid h5
  clear h1 h2 h3 h4 h5
  by_cases h2 : x = 2
  case pos =>
    have f1 : (x == 2) = true := by simpa using h2
    have HC : Hid (callS s gen slot = { s with outs := s.outs.tail }) := Lib.hid (by unfold callS; rw [if_pos (by rw [HO.out]; exact h2)])
    have HE : Hid (callE s gen slot = 10) := Lib.hid (by unfold callE; rw [if_pos (by rw [HO.out]; exact h2)])
    clear h2
    go_wp2
    go_ret
    exact ⟨by rw [HE.out]; rfl, by rw [HC.out]; exact ⟨v2, ⟨RW.out, OW.out⟩, NW.out⟩, FW.out, BW.out⟩
  have f1 : (x == 2) = false := by simpa using h2
  have n2 : Hid (¬ outS s = 2) := Lib.hid (by rw [HO.out]; exact h2)
  clear h2
  by_cases h1 : x = 1
  case pos =>
    have f2 : (x == 1) = true := by simpa using h1
    have n1 : Hid (outS s = 1) := Lib.hid (by rw [HO.out]; exact h1)
    clear h1
    by_cases hg : s.gen < gen
    case pos =>
      have f3 : decide (s.gen < gen) = true := by simpa using hg
      have HC : Hid (callS s gen slot = ⟨slot, gen, s.outs.tail, s.writes + 1⟩) := Lib.hid (by unfold callS; rw [if_neg n2.out, if_pos hg])
      have HE : Hid (callE s gen slot = 10) := Lib.hid (by unfold callE; rw [if_neg n2.out, if_pos n1.out])
      clear hg
      have c0 : W.cell? ⟨b, 0, none⟩ = some (.int .i64 s.slot) := by rw [cell_of_row W b 0 _ _ _ RW.out]; rfl
      have c1 : W.cell? ⟨b, 1, none⟩ = some (.int .i64 s.gen) := by rw [cell_of_row W b 1 _ _ _ RW.out]; rfl
      have c3 : W.cell? ⟨b, 3, none⟩ = some (.int .i64 s.writes) := by rw [cell_of_row W b 3 _ _ _ RW.out]; rfl
      have q0 : W.frozen? ⟨b, 0, none⟩ = false := by simp [World.frozen?, show W.heap[b]? = _ from RW.out]
      have q1 : W.frozen? ⟨b, 1, none⟩ = false := by simp [World.frozen?, show W.heap[b]? = _ from RW.out]
      have q3 : W.frozen? ⟨b, 3, none⟩ = false := by simp [World.frozen?, show W.heap[b]? = _ from RW.out]
      have ew : IntKind.i64.wrap (s.writes + 1) = s.writes + 1 := IntWalk.i64_in _ (by have := HWR.out; omega)
      have RX := Lib.hid (heap_setCell_same _ _ 3 _ 80 (.int .i64 (s.writes + 1)) (heap_setCell_same _ _ 0 _ 80 (.int .i64 slot) (heap_setCell_same _ _ 1 _ 80 (.int .i64 gen) RW.out)))
      have OX : Hid (Own (((W.setCell ⟨b, 1, none⟩ (.int .i64 gen)).setCell ⟨b, 0, none⟩ (.int .i64 slot)).setCell ⟨b, 3, none⟩ (.int .i64 (s.writes + 1))) v2 s.outs.tail) := Lib.hid (OW.out.block (fun k _ ⟨cur, hk⟩ => by
        have hne : k ≠ b := by
          intro e
          subst e
          have h1 := RW.out
          rw [hk] at h1
          simp at h1
        rw [Below.heap_setCell _ _ _ _ hne, Below.heap_setCell _ _ _ _ hne, Below.heap_setCell _ _ _ _ hne]))
      have FX : Hid (Fz (((W.setCell ⟨b, 1, none⟩ (.int .i64 gen)).setCell ⟨b, 0, none⟩ (.int .i64 slot)).setCell ⟨b, 3, none⟩ (.int .i64 (s.writes + 1))) g 78 fu') := Lib.hid (by
        unfold Fz
        rw [Below.heap_setCell _ _ _ _ (Ne.symm HBG.out), Below.heap_setCell _ _ _ _ (Ne.symm HBG.out), Below.heap_setCell _ _ _ _ (Ne.symm HBG.out)]
        exact FW.out)
      have BX := Lib.hid (((BW.out.set 1 (.int .i64 gen)).set 0 (.int .i64 slot)).set 3 (.int .i64 (s.writes + 1)))
      clear RW OW FW BW
      go_wp2
      go_ret
      exact ⟨by rw [HE.out]; rfl, by rw [HC.out]; exact ⟨v2, ⟨RX.out, OX.out⟩, NW.out⟩, FX.out, BX.out⟩
    have f3 : decide (s.gen < gen) = false := by simpa using hg
    have HC : Hid (callS s gen slot = { s with outs := s.outs.tail }) := Lib.hid (by unfold callS; rw [if_neg n2.out, if_neg hg])
    by_cases hl : gen < s.gen
    case pos =>
      have f4 : decide (gen < s.gen) = true := by simpa using hl
      have HE : Hid (callE s gen slot = 10) := Lib.hid (by unfold callE; rw [if_neg n2.out, if_pos n1.out])
      clear hg hl
      have c0 : W.cell? ⟨b, 0, none⟩ = some (.int .i64 s.slot) := by rw [cell_of_row W b 0 _ _ _ RW.out]; rfl
      have c1 : W.cell? ⟨b, 1, none⟩ = some (.int .i64 s.gen) := by rw [cell_of_row W b 1 _ _ _ RW.out]; rfl
      go_wp2
      go_ret
      exact ⟨by rw [HE.out]; rfl, by rw [HC.out]; exact ⟨v2, ⟨RW.out, OW.out⟩, NW.out⟩, FW.out, BW.out⟩
    have f4 : decide (gen < s.gen) = false := by simpa using hl
    by_cases hs : slot = s.slot
    case neg =>
      have f5 : (slot != s.slot) = true := by simpa using hs
      have HE : Hid (callE s gen slot = 10) := Lib.hid (by unfold callE; rw [if_neg n2.out, if_pos n1.out])
      clear hg hl hs
      have c0 : W.cell? ⟨b, 0, none⟩ = some (.int .i64 s.slot) := by rw [cell_of_row W b 0 _ _ _ RW.out]; rfl
      have c1 : W.cell? ⟨b, 1, none⟩ = some (.int .i64 s.gen) := by rw [cell_of_row W b 1 _ _ _ RW.out]; rfl
      go_wp2
      go_ret
      exact ⟨by rw [HE.out]; rfl, by rw [HC.out]; exact ⟨v2, ⟨RW.out, OW.out⟩, NW.out⟩, FW.out, BW.out⟩
    have f5 : (slot != s.slot) = false := by simpa using hs
    have HE : Hid (callE s gen slot = 10) := Lib.hid (by unfold callE; rw [if_neg n2.out, if_pos n1.out])
    clear hg hl hs
    have c0 : W.cell? ⟨b, 0, none⟩ = some (.int .i64 s.slot) := by rw [cell_of_row W b 0 _ _ _ RW.out]; rfl
    have c1 : W.cell? ⟨b, 1, none⟩ = some (.int .i64 s.gen) := by rw [cell_of_row W b 1 _ _ _ RW.out]; rfl
    go_wp2
    go_ret
    exact ⟨by rw [HE.out]; rfl, by rw [HC.out]; exact ⟨v2, ⟨RW.out, OW.out⟩, NW.out⟩, FW.out, BW.out⟩
  have f2 : (x == 1) = false := by simpa using h1
  have n1 : Hid (¬ outS s = 1) := Lib.hid (by rw [HO.out]; exact h1)
  clear h1
  by_cases hg : s.gen < gen
  case pos =>
    have f3 : decide (s.gen < gen) = true := by simpa using hg
    have HC : Hid (callS s gen slot = ⟨slot, gen, s.outs.tail, s.writes + 1⟩) := Lib.hid (by unfold callS; rw [if_neg n2.out, if_pos hg])
    have HE : Hid (callE s gen slot = 0) := Lib.hid (by unfold callE; rw [if_neg n2.out, if_neg n1.out, if_pos hg])
    clear hg
    have c0 : W.cell? ⟨b, 0, none⟩ = some (.int .i64 s.slot) := by rw [cell_of_row W b 0 _ _ _ RW.out]; rfl
    have c1 : W.cell? ⟨b, 1, none⟩ = some (.int .i64 s.gen) := by rw [cell_of_row W b 1 _ _ _ RW.out]; rfl
    have c3 : W.cell? ⟨b, 3, none⟩ = some (.int .i64 s.writes) := by rw [cell_of_row W b 3 _ _ _ RW.out]; rfl
    have q0 : W.frozen? ⟨b, 0, none⟩ = false := by simp [World.frozen?, show W.heap[b]? = _ from RW.out]
    have q1 : W.frozen? ⟨b, 1, none⟩ = false := by simp [World.frozen?, show W.heap[b]? = _ from RW.out]
    have q3 : W.frozen? ⟨b, 3, none⟩ = false := by simp [World.frozen?, show W.heap[b]? = _ from RW.out]
    have ew : IntKind.i64.wrap (s.writes + 1) = s.writes + 1 := IntWalk.i64_in _ (by have := HWR.out; omega)
    have RX := Lib.hid (heap_setCell_same _ _ 3 _ 80 (.int .i64 (s.writes + 1)) (heap_setCell_same _ _ 0 _ 80 (.int .i64 slot) (heap_setCell_same _ _ 1 _ 80 (.int .i64 gen) RW.out)))
    have OX : Hid (Own (((W.setCell ⟨b, 1, none⟩ (.int .i64 gen)).setCell ⟨b, 0, none⟩ (.int .i64 slot)).setCell ⟨b, 3, none⟩ (.int .i64 (s.writes + 1))) v2 s.outs.tail) := Lib.hid (OW.out.block (fun k _ ⟨cur, hk⟩ => by
      have hne : k ≠ b := by
        intro e
        subst e
        have h1 := RW.out
        rw [hk] at h1
        simp at h1
      rw [Below.heap_setCell _ _ _ _ hne, Below.heap_setCell _ _ _ _ hne, Below.heap_setCell _ _ _ _ hne]))
    have FX : Hid (Fz (((W.setCell ⟨b, 1, none⟩ (.int .i64 gen)).setCell ⟨b, 0, none⟩ (.int .i64 slot)).setCell ⟨b, 3, none⟩ (.int .i64 (s.writes + 1))) g 78 fu') := Lib.hid (by
      unfold Fz
      rw [Below.heap_setCell _ _ _ _ (Ne.symm HBG.out), Below.heap_setCell _ _ _ _ (Ne.symm HBG.out), Below.heap_setCell _ _ _ _ (Ne.symm HBG.out)]
      exact FW.out)
    have BX := Lib.hid (((BW.out.set 1 (.int .i64 gen)).set 0 (.int .i64 slot)).set 3 (.int .i64 (s.writes + 1)))
    clear RW OW FW BW
    go_wp2
    go_ret
    exact ⟨by rw [HE.out]; rfl, by rw [HC.out]; exact ⟨v2, ⟨RX.out, OX.out⟩, NW.out⟩, FX.out, BX.out⟩
  have f3 : decide (s.gen < gen) = false := by simpa using hg
  have HC : Hid (callS s gen slot = { s with outs := s.outs.tail }) := Lib.hid (by unfold callS; rw [if_neg n2.out, if_neg hg])
  by_cases hl : gen < s.gen
  case pos =>
    have f4 : decide (gen < s.gen) = true := by simpa using hl
    have HE : Hid (callE s gen slot = 11) := Lib.hid (by unfold callE; rw [if_neg n2.out, if_neg n1.out, if_neg hg, if_pos (Or.inl hl)])
    clear hg hl
    have c0 : W.cell? ⟨b, 0, none⟩ = some (.int .i64 s.slot) := by rw [cell_of_row W b 0 _ _ _ RW.out]; rfl
    have c1 : W.cell? ⟨b, 1, none⟩ = some (.int .i64 s.gen) := by rw [cell_of_row W b 1 _ _ _ RW.out]; rfl
    go_wp2
    go_ret
    exact ⟨by rw [HE.out]; rfl, by rw [HC.out]; exact ⟨v2, ⟨RW.out, OW.out⟩, NW.out⟩, FW.out, BW.out⟩
  have f4 : decide (gen < s.gen) = false := by simpa using hl
  by_cases hs : slot = s.slot
  case neg =>
    have f5 : (slot != s.slot) = true := by simpa using hs
    have HE : Hid (callE s gen slot = 11) := Lib.hid (by unfold callE; rw [if_neg n2.out, if_neg n1.out, if_neg hg, if_pos (Or.inr hs)])
    clear hg hl hs
    have c0 : W.cell? ⟨b, 0, none⟩ = some (.int .i64 s.slot) := by rw [cell_of_row W b 0 _ _ _ RW.out]; rfl
    have c1 : W.cell? ⟨b, 1, none⟩ = some (.int .i64 s.gen) := by rw [cell_of_row W b 1 _ _ _ RW.out]; rfl
    go_wp2
    go_ret
    exact ⟨by rw [HE.out]; rfl, by rw [HC.out]; exact ⟨v2, ⟨RW.out, OW.out⟩, NW.out⟩, FW.out, BW.out⟩
  have f5 : (slot != s.slot) = false := by simpa using hs
  have HE : Hid (callE s gen slot = 0) := Lib.hid (by unfold callE; rw [if_neg n2.out, if_neg n1.out, if_neg hg, if_neg (fun h => h.elim hl (fun h => h hs))])
  clear hg hl hs
  have c0 : W.cell? ⟨b, 0, none⟩ = some (.int .i64 s.slot) := by rw [cell_of_row W b 0 _ _ _ RW.out]; rfl
  have c1 : W.cell? ⟨b, 1, none⟩ = some (.int .i64 s.gen) := by rw [cell_of_row W b 1 _ _ _ RW.out]; rfl
  go_wp2
  go_ret
  exact ⟨by rw [HE.out]; rfl, by rw [HC.out]; exact ⟨v2, ⟨RW.out, OW.out⟩, NW.out⟩, FW.out, BW.out⟩
end Go.Proofs.YtchaeidmjoelnaaGreat
namespace Go.Proofs.YtchaeidmjoelnaaGreat
open Go.RowKit

/-- A fuse as it comes to be. -/
structure Fine (f : Fu) : Prop where
  left : f.armed = true → 0 ≤ f.left ∧ f.left ≤ 9223372036854775807
  blown : f.blown = true → f.armed = true ∧ f.left = 0
  count : 0 ≤ f.count ∧ f.count < 1000000
def bears (f : Fu) : Bool := !(f.armed && f.left == 0)
def spent (f : Fu) : Fu := if bears f = true then ⟨f.armed, if f.armed then f.left - 1 else f.left, f.blown, f.count + 1⟩ else ⟨f.armed, f.left, true, f.count⟩
theorem mspend_any (g : Nat) (f : Fu) (w : World) (hf : Fine f) (h : Fz w g 78 f) : Calls Tryz.prog 79 #[.pointer (some ⟨g, 0, none⟩)] w fun e w' => e = .returned (.bool (bears f)) ∧ Fz w' g 78 (spent f) ∧ Only g w w' := by
  obtain ⟨a, l, bl, c⟩ := f
  obtain ⟨h1, h2, h3⟩ := hf
  simp only at h1 h2 h3
  cases a with
  | false =>
    have hb : bl = false := by
      cases bl
      · rfl
      · exact absurd (h2 rfl).1 (by decide)
    subst hb
    exact mspend_free g l c w h3.1 h3.2 h
  | true =>
    by_cases hl : l = 0
    · subst hl
      exact mspend_no g bl c w h
    · have hb : bl = false := by
        cases bl
        · rfl
        · exact absurd (h2 rfl).2 hl
      subst hb
      have e : bears ⟨true, l, false, c⟩ = true := by simp [bears, hl]
      have h4 := mspend_some g l c w (by have := h1 rfl; omega) (h1 rfl).2 h3.1 h3.2 h
      unfold spent
      rw [e, if_pos rfl]
      exact h4
/-- What a call tells, and leaves of the router and of its fuse. -/
instance (gen slot : Int) : Decidable (inRange gen slot) := by unfold inRange; infer_instance
def toldC (s : Ro) (f : Fu) (gen slot : Int) : Int := if inRange gen slot then (if bears f = true then callE s gen slot else 2) else 1
def leftC (s : Ro) (f : Fu) (gen slot : Int) : Ro := if inRange gen slot then (if bears f = true then callS s gen slot else s) else s
def fuseC (f : Fu) (gen slot : Int) : Fu := if inRange gen slot then spent f else f
theorem mcall_any (b g : Nat) (s : Ro) (f : Fu) (gen slot : Int) (v : Value) (w : World) (h : RoM w b g v s) (hz : Fz w g 78 f) (hbg : b ≠ g) (hf : Fine f) (hwr : 0 ≤ s.writes ∧ s.writes ≤ 1000000) (hl : s.outs.length ≤ 100000) :
    Calls Tryz.prog 59 #[.pointer (some ⟨b, 0, none⟩), .int .i64 gen, .int .i64 slot] w fun e w' => e = .returned (.int .i64 (toldC s f gen slot)) ∧ (∃ v', RoM w' b g v' (leftC s f gen slot) ∧ New w v v') ∧ Fz w' g 78 (fuseC f gen slot) ∧ But b g w w' := by
  unfold toldC leftC fuseC
  by_cases hr : inRange gen slot
  · rw [if_pos hr, if_pos hr, if_pos hr]
    have hsp := fun W => mspend_any g f W hf
    cases hb : bears f with
    | false =>
      rw [hb] at hsp
      rw [if_neg (by decide), if_neg (by decide)]
      exact mcall_halt b g s f (spent f) gen slot v w h hz hbg hr hsp
    | true =>
      rw [hb] at hsp
      rw [if_pos rfl, if_pos rfl]
      cases ho : s.outs with
      | nil => exact mcall_nil b g s f (spent f) gen slot v w h hz hbg hr hsp hwr ho
      | cons x xs => exact mcall_cons b g s f (spent f) gen slot v w h hz hbg hr hsp hwr x xs ho (by rw [ho] at hl; simp at hl; omega)
  · rw [if_neg hr, if_neg hr, if_neg hr]
    exact (mcall_range b gen slot w hr).mono fun e w' ⟨he, hw⟩ => by
      subst hw
      exact ⟨he, ⟨v, h, fun _ h => .inl h⟩, hz, But.refl _ _ _⟩
end Go.Proofs.YtchaeidmjoelnaaGreat
