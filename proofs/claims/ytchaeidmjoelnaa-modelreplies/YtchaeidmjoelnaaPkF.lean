/-
  Package router in memory: its block, its outcomes (a slice of memory of its own, that may begin anywhere in it); Script.
  Package router in memory: right, next, set.
  Package router in memory: set, New, Cell, Writes.
  Package router in memory: Call, all ways joined.
  Package router and its fuse as one thing (Pk), what a call leaves alone (TurnR), and bounds behind n calls (Bd).
-/
import Derived.Test.YtchaeidmjoelnaaRouA
import Derived.Deep.Upon
import Derived.Test.YtchaeidmjoelnaaRouC
import Derived.Laws.StructEq
import Derived.Deep.MidRow
import Derived.Deep.QuietTactic
import Derived.BigQuiet
namespace Go.Proofs.Ytchaeidmjoelnaa
open Go.RowKit

/-- A slice that reads as these numbers, in a block of its own; where it begins is left open. -/
def OwnO (W : World) (v : Value) (xs : List Int) : Prop :=
  (v = .slice none 0 0 ∧ xs = []) ∨ ∃ g o c cur, v = .slice (some ⟨g, o, none⟩) xs.length c ∧ xs.length ≤ c ∧ c ≤ maxLen ∧ W.heap[g]? = some (.cells cur 3 (0, 0)) ∧ o + c ≤ cur.size ∧ ∀ k (h : k < xs.length), W.cell? ⟨g, o + k, none⟩ = some (.int .i64 xs[k])
theorem OwnO.reads {W : World} {v : Value} {xs : List Int} (h : OwnO W v xs) : IntsI W v xs := by
  rcases h with ⟨hv, hn⟩ | ⟨g, o, c, cur, hv, h1, h2, h3, h4, h5⟩
  · exact .inl ⟨.inl hv, hn⟩
  · cases xs with
    | nil => exact .inl ⟨.inr ⟨_, _, hv⟩, rfl⟩
    | cons x xs => exact .inr ⟨g, o, c, hv, by simp, h1, lt_of_block h3, h5⟩
theorem OwnO.lt {W : World} {v : Value} {xs : List Int} (h : OwnO W v xs) : ∀ k, v.ownBlock = some k → k < W.heap.size := by
  intro k hk
  rcases h with ⟨rfl, _⟩ | ⟨g, o, c, cur, rfl, _, _, h3, _⟩
  · cases hk
  · obtain rfl : g = k := by simpa [Value.ownBlock] using hk
    exact lt_of_block h3
theorem Own.lt {W : World} {v : Value} {xs : List Int} (h : Own W v xs) : ∀ k, v.ownBlock = some k → k < W.heap.size := fun k hk => (own_ge h k hk).2
theorem OwnO.kind {W : World} {v : Value} {xs : List Int} (h : OwnO W v xs) : ∀ k, v.ownBlock = some k → ∃ cur, W.heap[k]? = some (.cells cur 3 (0, 0)) := by
  intro k hk
  rcases h with ⟨rfl, _⟩ | ⟨g, o, c, cur, rfl, _, _, h3, _⟩
  · cases hk
  · obtain rfl : g = k := by simpa [Value.ownBlock] using hk
    exact ⟨cur, h3⟩
theorem Own.kind {W : World} {v : Value} {xs : List Int} (h : Own W v xs) : ∀ k, v.ownBlock = some k → ∃ cur, W.heap[k]? = some (.cells cur 3 (0, 0)) := by
  intro k hk
  rcases h.2 with ⟨rfl, _⟩ | ⟨g, cap, cur, rfl, _, h3, _⟩
  · cases hk
  · obtain rfl : g = k := by simpa [Value.ownBlock] using hk
    exact ⟨cur, h3⟩
theorem OwnO.keep {W W' : World} {v : Value} {xs : List Int} (h : OwnO W v xs) (hk : ∀ k, v.ownBlock = some k → W'.heap[k]? = W.heap[k]?) : OwnO W' v xs := by
  rcases h with h | ⟨g, o, c, cur, rfl, h1, h2, h3, h4, h5⟩
  · exact .inl h
  · have e := hk g rfl
    exact .inr ⟨g, o, c, cur, rfl, h1, h2, e.trans h3, h4, fun k hk => (World.cell?_of_block (a := ⟨g, o + k, none⟩) e).trans (h5 k hk)⟩
theorem Own.keep {W W' : World} {v : Value} {xs : List Int} (h : Own W v xs) (hk : ∀ k, v.ownBlock = some k → W'.heap[k]? = W.heap[k]?) : Own W' v xs := by
  refine ⟨h.1, ?_⟩
  rcases h.2 with h | ⟨g, cap, cur, rfl, h2, h3, h4⟩
  · exact .inl h
  · exact .inr ⟨g, cap, cur, rfl, h2, (hk g rfl).trans h3, h4⟩
theorem OwnO.of_row {W : World} {base : Nat} {v : Value} {n : Nat} {xs : List Int} (h : W.ownsRow base 3 1 v n (ints xs)) (hn : n = xs.length) : OwnO W v xs := by
  subst hn
  have hr := Own.reads (own_base h)
  rcases h.2 with ⟨hv, hn⟩ | ⟨g, cap, cur, hv, _, hg, hn, hc, hs, ht⟩
  · exact .inl ⟨hv, List.length_eq_zero_iff.1 hn⟩
  · refine .inr ⟨g, 0, cap, cur, hv, hn, hc, hg, by omega, ?_⟩
    intro k hk
    rcases hr with ⟨_, h0⟩ | ⟨b, o, c, he, _, _, _, h4⟩
    · subst h0; simp at hk
    · rw [hv] at he
      injection he with he1 he2 he3
      injection he1 with he1
      injection he1 with e1 e2 e3
      subst e1 e2
      exact h4 k hk
/-- A row stays one, whatever is written into it. -/
theorem heap_setCells (g : Nat) : ∀ (vs : List Value) (o : Nat) (w : World) (cur : Array Value), w.heap[g]? = some (.cells cur 3 (0, 0)) → ∃ cur', (w.setCells g o vs).heap[g]? = some (.cells cur' 3 (0, 0)) ∧ cur'.size = cur.size
  | [], _, _, cur, h => ⟨cur, h, rfl⟩
  | v :: vs, o, w, cur, h => by
    obtain ⟨c1, h1, e1⟩ := heap_setCells g vs (o + 1) (w.setCell ⟨g, o, none⟩ v) _ (heap_setCell_same w g o cur 3 v h)
    exact ⟨c1, h1, by rw [e1]; simp⟩
theorem tape_setCells (g : Nat) : ∀ (vs : List Value) (o : Nat) (w : World), (w.setCells g o vs).tape = w.tape
  | [], _, _ => rfl
  | v :: vs, o, w => (tape_setCells g vs (o + 1) (w.setCell ⟨g, o, none⟩ v)).trans rfl
theorem size_setCells (g : Nat) : ∀ (vs : List Value) (o : Nat) (w : World), (w.setCells g o vs).heap.size = w.heap.size
  | [], _, _ => rfl
  | v :: vs, o, w => (size_setCells g vs (o + 1) (w.setCell ⟨g, o, none⟩ v)).trans (by simp [World.setCell])
theorem block_setCells (g k : Nat) (hk : k ≠ g) : ∀ (vs : List Value) (o : Nat) (w : World), (w.setCells g o vs).heap[k]? = w.heap[k]?
  | [], _, _ => rfl
  | v :: vs, o, w => (block_setCells g k hk vs (o + 1) (w.setCell ⟨g, o, none⟩ v)).trans (Below.heap_setCell w ⟨g, o, none⟩ v k hk)
/-- More numbers behind those of such a slice: in the room that there is, or in new memory. -/
theorem append_owno {W : World} {bv v : Value} {xs0 xs : List Int} (hown : OwnO W bv xs0) (hv : IntsI W v xs) (hn : xs0.length + xs.length ≤ 100000000) :
    ∃ v' W', (Builtin.append_ #[32, 32] 32 #[bv, v]).run Try.prog W = .ok v' W' ∧ OwnO W' v' (xs0 ++ xs) ∧ New W bv v' ∧ W.grownBy W' bv.ownBlock := by
  have hsrc : Src Try.prog ie3.size 32 v xs.length (ints xs) W := by
    rcases hv with ⟨rfl | ⟨a, c, rfl⟩, rfl⟩ | ⟨b, o, c, rfl, h1, h2, h3, h4⟩
    · exact Src.ofNil W Try.underlying32 0
    · exact Src.ofSlice W Try.underlying32 a 0 c [] (by simp) (fun j u h => by cases h) (fun u h => by cases h)
    · exact Src.ofSlice W Try.underlying32 ⟨b, o, none⟩ xs.length c (ints xs) (by rw [ints_len, ie3_size]; omega) (fun j u hu => by
        have hj : j < xs.length := by have := (List.getElem?_eq_some_iff.1 hu).1; rw [ints_len] at this; exact this
        rw [addr_add, h4 j hj, ← hu]
        simp [ints, hj]) (ints_one xs)
  have grows : ∀ (ad : Option Addr) (c : Nat), bv = .slice ad xs0.length c → c < xs0.length + xs.length → (Builtin.firstCells ie3.size xs0.length (.slice ad xs0.length c)).run Try.prog W.drew = .ok (ints xs0).toArray W.drew →
      ∃ v' W', (Builtin.append_ #[32, 32] 32 #[bv, v]).run Try.prog W = .ok v' W' ∧ OwnO W' v' (xs0 ++ xs) ∧ New W bv v' ∧ W.grownBy W' bv.ownBlock := by
    intro ad c hbv hc hold
    have h63 : xs0.length + xs.length ≤ maxLen := by unfold maxLen; omega
    have hr := run_append_grow_src W 32 32 32 3 ie3 (.int .i64 0) Try.underlying32 ie3_is ie3_zero ad xs0.length c (ints xs0) hold v xs.length (ints xs) hsrc hc (by omega) (by rw [ie3_bytes]; exact growslice_fits hc (by omega))
    have hge := grownCap_ge W (xs0.length + xs.length) c 3
    have hcm : grownCap W (xs0.length + xs.length) c 3 ≤ maxLen := grownCap_le_maxLen W _ c 3 h63
    subst hbv
    refine ⟨_, _, hr, ?_, ?_, ⟨rfl, rfl, rfl, by simp, fun k hk _ => heap_alloc_old W.drew _ hk⟩⟩
    · refine OwnO.of_row (base := 0) (n := xs0.length + xs.length) ⟨by rw [ints_len]; simp, .inr ⟨W.heap.size, _, _, rfl, Nat.zero_le _, heap_alloc_new W.drew _, hge, hcm, ?_, ?_⟩⟩ (by simp)
      · simp only [Array.size_append, List.size_toArray, size_zeroCells, ints_len, List.length_append]
        show _ + _ * 1 = _
        omega
      · rw [Array.toList_append, ints_append]
        exact List.take_left' (by simp [ints_len])
    · intro k hk
      obtain rfl : W.heap.size = k := by simpa [Value.ownBlock] using hk
      exact .inr (Nat.le_refl _)
  rcases hown with ⟨rfl, rfl⟩ | ⟨g, o, c, cur, rfl, h1, h2, h3, h4, h5⟩
  · by_cases hx : xs = []
    · subst hx
      have hr := run_append_nothing W 32 32 32 3 ie3 Try.underlying32 ie3_is none 0 0 (Nat.le_refl _) v (by simpa [ints] using hsrc)
      exact ⟨_, _, hr, .inl ⟨rfl, rfl⟩, fun _ h => .inl h, World.grownBy.refl W _⟩
    · refine grows none 0 rfl (by have := List.length_pos_iff.2 hx; simp; omega) ?_
      exact run_firstCells_none W.drew ie3.size 0 0 0
  · by_cases hr : xs0.length + xs.length ≤ c
    · have hcs : ∀ j, j < c → (W.cell? ⟨g, o + j, none⟩).isSome = true := fun j hj => by
        rw [cell_of_row W g _ cur 3 (0, 0) h3]
        simp; omega
      have hfz : ∀ i, W.frozen? ⟨g, i, none⟩ = false := fun i => by simp [World.frozen?, h3]
      have run := run_append_room_src W 32 32 32 3 ie3 Try.underlying32 ie3_is g o xs0.length c v xs.length (ints xs) hsrc hr (fun j hj => by rw [ints_len] at hj; rw [ie3_size, Nat.mul_one, Nat.add_assoc]; exact hcs _ (by omega)) (fun j _ => hfz _)
      rw [ie3_size, Nat.mul_one] at run
      obtain ⟨cur', hc', hs'⟩ := heap_setCells g (ints xs) (o + xs0.length) W cur h3
      refine ⟨_, _, run, .inr ⟨g, o, c, cur', by rw [List.length_append], by rw [List.length_append]; exact hr, h2, hc', by omega, ?_⟩, fun _ h => .inl h, ⟨World.os_setCells .., tape_setCells .., World.output_setCells .., by rw [size_setCells]; exact Nat.le_refl _, fun k _ hk => block_setCells g k (fun e => hk (by simp [Value.ownBlock, e])) _ _ _⟩⟩
      intro k hk
      by_cases hk0 : k < xs0.length
      · rw [World.cell?_setCells_out g _ _ _ _ (fun _ _ => Or.inl (by show o + k < o + xs0.length; omega)), h5 k hk0, List.getElem_append_left hk0]
      · have hj : k - xs0.length < (ints xs).length := by rw [ints_len]; rw [List.length_append] at hk; omega
        have := World.cell?_setCells_in g (ints xs) (o + xs0.length) W (fun j hj => by rw [ints_len] at hj; rw [Nat.add_assoc]; exact hcs _ (by omega)) (k - xs0.length) hj
        rw [show o + xs0.length + (k - xs0.length) = o + k by omega] at this
        rw [this, List.getElem_append_right (by omega)]
        simp [ints]
    · refine grows (some ⟨g, o, none⟩) c rfl (by omega) ?_
      refine run_firstCells_some W.drew ie3.size xs0.length ⟨g, o, none⟩ xs0.length c (ints xs0) (by rw [ints_len, ie3_size]; omega) (fun j u hu => ?_)
      have hj : j < xs0.length := by have := (List.getElem?_eq_some_iff.1 hu).1; rw [ints_len] at this; exact this
      rw [addr_add]
      show W.cell? _ = _
      rw [h5 j hj, ← hu]
      simp [ints, hj]
/-- A router in memory: block b, its fuse in block g, its outcomes where v says. -/
structure RoP (W : World) (b g : Nat) (v : Value) (s : Ro) : Prop where
  row : W.heap[b]? = some (.cells #[.int .i64 s.slot, .int .i64 s.gen, .int .i64 s.writes, v, .pointer (some ⟨g, 0, none⟩)] 85 (0, 0))
  own : OwnO W v s.outs
/-- Nothing but the blocks b and g and the outcomes' own turned, of those that were. -/
structure ButR (b g : Nat) (v : Value) (w w' : World) : Prop where
  os : w'.os = w.os
  tape : w'.tape = w.tape
  output : w'.output = w.output
  size : w.heap.size ≤ w'.heap.size
  block : ∀ k, k < w.heap.size → k ≠ b → k ≠ g → v.ownBlock ≠ some k → w'.heap[k]? = w.heap[k]?
theorem ButR.refl (b g : Nat) (v : Value) (w : World) : ButR b g v w w := ⟨rfl, rfl, rfl, Nat.le_refl _, fun _ _ _ _ _ => rfl⟩
theorem ButR.trans {b g : Nat} {v v' : Value} {w w' w'' : World} (h : ButR b g v w w') (k : ButR b g v' w' w'') (hn : New w v v') : ButR b g v w w'' :=
  ⟨k.os.trans h.os, k.tape.trans h.tape, k.output.trans h.output, Nat.le_trans h.size k.size, fun j hj h1 h2 h3 => (k.block j (Nat.lt_of_lt_of_le hj h.size) h1 h2 (fun e => (hn j e).elim h3 (fun h => by omega))).trans (h.block j hj h1 h2 h3)⟩
theorem ButR.of_but {b g : Nat} {v : Value} {w w' : World} (h : But b g w w') : ButR b g v w w' := ⟨h.os, h.tape, h.output, h.size, fun k hk h1 h2 _ => h.block k hk h1 h2⟩
theorem ButR.of_below {b g : Nat} {v : Value} {w w' : World} (h : Below w.heap.size w w') : ButR b g v w w' := .of_but (.of_below h)
theorem ButR.set {b g : Nat} {v : Value} {w w' : World} (h : ButR b g v w w') (i : Nat) (u : Value) : ButR b g v w (w'.setCell ⟨b, i, none⟩ u) :=
  ⟨h.os, h.tape, h.output, by simpa [World.setCell] using h.size, fun k hk h1 h2 h3 => (Below.heap_setCell w' ⟨b, i, none⟩ u k h1).trans (h.block k hk h1 h2 h3)⟩
theorem ButR.below {b g B : Nat} {v : Value} {a w w' : World} (h : ButR b g v w w') (hb : Below B a w) (h1 : B ≤ b) (h2 : B ≤ g) (h3 : ∀ k, v.ownBlock = some k → B ≤ k) (hB : B ≤ w.heap.size) : Below B a w' :=
  ⟨h.os.trans hb.os, h.tape.trans hb.tape, h.output.trans hb.output, Nat.le_trans hb.size h.size, fun k hk => (h.block k (by omega) (by omega) (by omega) (fun e => by have := h3 k e; omega)).trans (hb.block k hk)⟩
theorem ButR.wide {b g : Nat} {v : Value} {w w' : World} (h : ButR b b v w w') : ButR b g v w w' := ⟨h.os, h.tape, h.output, h.size, fun k hk h1 _ h3 => h.block k hk h1 h1 h3⟩
theorem New.ge {w : World} {v v' : Value} {B : Nat} (h : New w v v') (h3 : ∀ k, v.ownBlock = some k → B ≤ k) (hB : B ≤ w.heap.size) : ∀ k, v'.ownBlock = some k → B ≤ k := fun k hk => (h k hk).elim (h3 k) (fun h => by omega)
set_option maxRecDepth 100000 in
set_option maxHeartbeats 4000000 in
theorem pscript_any (b g : Nat) (s : Ro) (l : Value) (xs : List Int) (v : Value) (w : World) (h : RoP w b g v s) (hl : IntsI w l xs) (hn : s.outs.length + xs.length ≤ 100000000) : Calls Try.prog 33 #[.pointer (some ⟨b, 0, none⟩), l] w fun e w' => e = .returned (.tuple #[]) ∧ (∃ v', RoP w' b g v' { s with outs := s.outs ++ xs } ∧ New w v v') ∧ ButR b b v w w' := by
  obtain ⟨hrow, hown⟩ := h
  have hblt := lt_of_block hrow
  have hnb : v.ownBlock ≠ some b := fun e => by
    obtain ⟨cur, hc⟩ := hown.kind b e
    rw [hrow] at hc
    simp at hc
  obtain ⟨v2, W2, e2, o2, n2, g2⟩ := append_owno hown hl hn
  have hrow2 : W2.heap[b]? = some (.cells #[.int .i64 s.slot, .int .i64 s.gen, .int .i64 s.writes, v, .pointer (some ⟨g, 0, none⟩)] 85 (0, 0)) := (g2.block b hblt (Ne.symm hnb)).trans hrow
  have c2 : w.cell? ⟨b, 3, none⟩ = some v := by rw [cell_of_row w b 3 _ _ _ hrow]; rfl
  have d2 : W2.cell? ⟨b, 3, none⟩ = some v := by rw [cell_of_row W2 b 3 _ _ _ hrow2]; rfl
  have f2 : W2.frozen? ⟨b, 3, none⟩ = false := by simp [World.frozen?, hrow2]
  have hb2 : ButR b b v w W2 := ⟨g2.os, g2.tape, g2.output, g2.size, fun k hk _ _ h3 => g2.block k hk (Ne.symm h3)⟩
  have HF : Hid ((∃ v', RoP (W2.setCell ⟨b, 3, none⟩ v2) b g v' { s with outs := s.outs ++ xs } ∧ New w v v') ∧ ButR b b v w (W2.setCell ⟨b, 3, none⟩ v2)) := Lib.hid ⟨⟨v2, ⟨heap_setCell_same _ _ 3 _ 85 v2 hrow2, o2.keep (fun k hk => Below.heap_setCell _ _ _ _ (by
      show k ≠ b
      intro e
      subst e
      obtain ⟨cur, hc⟩ := o2.kind k hk
      rw [hrow2] at hc
      simp at hc))⟩, n2⟩, hb2.set 3 v2⟩
  have hv : ∃ A n c, v = .slice A n c := by
    rcases hown with ⟨rfl, _⟩ | ⟨_, _, _, _, rfl, _⟩ <;> exact ⟨_, _, _, rfl⟩
  have hv2 : ∃ A n c, v2 = .slice A n c := by
    rcases o2 with ⟨rfl, _⟩ | ⟨_, _, _, _, rfl, _⟩ <;> exact ⟨_, _, _, rfl⟩
  obtain ⟨A, n, c, rfl⟩ := hv
  obtain ⟨A2, n2', c2', rfl⟩ := hv2
  clear hl hn hrow hown o2 g2 hrow2 n2 hb2 hnb hblt
  have E2 := Lib.hid e2
  clear e2
  go_enter Try.func33, Try.ntmps33
  go_wp2_with (first | (at_builtin; refine wpList_append_is rfl (.tmp 8) (.tmp 9) 32 rfl rfl rfl E2.out ?_))
  go_end0
  exact ⟨rfl, HF.out⟩
end Go.Proofs.Ytchaeidmjoelnaa
namespace Go.Proofs.Ytchaeidmjoelnaa
open Go.RowKit

set_option maxRecDepth 100000 in
set_option maxHeartbeats 4000000 in
theorem rright_any (gen slot : Int) (w : World) : Calls Try.prog 77 #[.int .i64 gen, .int .i64 slot] w fun e w' => e = .returned (.bool (decide (inRange gen slot))) ∧ w = w' := by
  by_cases hs : slot = 0 ∨ slot = 1
  case neg =>
    have H : Hid (decide (inRange gen slot) = false) := Lib.hid (decide_eq_false (fun h => by unfold inRange at h; omega))
    have e1 : (slot == 0) = false := by simpa using fun h => hs (.inl h)
    have e2 : (slot == 1) = false := by simpa using fun h => hs (.inr h)
    clear hs
    go_enter Try.func77, Try.ntmps77
    go_wp2
    go_ret
    exact ⟨by rw [H.out]; rfl, rfl⟩
  by_cases h1 : 1 ≤ gen
  case neg =>
    have H : Hid (decide (inRange gen slot) = false) := Lib.hid (decide_eq_false (fun h => by unfold inRange at h; omega))
    have e3 : decide (1 ≤ gen) = false := by simpa using h1
    clear h1
    rcases hs with rfl | rfl
    · go_enter Try.func77, Try.ntmps77
      go_wp2
      go_ret
      exact ⟨by rw [H.out]; rfl, rfl⟩
    · go_enter Try.func77, Try.ntmps77
      go_wp2
      go_ret
      exact ⟨by rw [H.out]; rfl, rfl⟩
  have e3 : decide (1 ≤ gen) = true := by simpa using h1
  by_cases h2 : gen ≤ 1048576
  case neg =>
    have H : Hid (decide (inRange gen slot) = false) := Lib.hid (decide_eq_false (fun h => by unfold inRange at h; omega))
    have e4 : decide (gen ≤ 1048576) = false := by simpa using h2
    clear h1 h2
    rcases hs with rfl | rfl
    · go_enter Try.func77, Try.ntmps77
      go_wp2
      go_ret
      exact ⟨by rw [H.out]; rfl, rfl⟩
    · go_enter Try.func77, Try.ntmps77
      go_wp2
      go_ret
      exact ⟨by rw [H.out]; rfl, rfl⟩
  have e4 : decide (gen ≤ 1048576) = true := by simpa using h2
  have H : Hid (decide (inRange gen slot) = true) := Lib.hid (decide_eq_true (by unfold inRange; omega))
  clear h1 h2
  rcases hs with rfl | rfl
  · go_enter Try.func77, Try.ntmps77
    go_wp2
    go_ret
    exact ⟨by rw [H.out]; rfl, rfl⟩
  · go_enter Try.func77, Try.ntmps77
    go_wp2
    go_ret
    exact ⟨by rw [H.out]; rfl, rfl⟩
theorem owno_tail {W : World} {v : Value} {x : Int} {xs : List Int} (h : OwnO W v (x :: xs)) : ∃ e o c, v = .slice (some ⟨e, o, none⟩) (xs.length + 1) c ∧ W.cell? ⟨e, o, none⟩ = some (.int .i64 x) ∧ ∃ v1, (∀ W', (Instr.slice 32 v (some (.int .i64 1)) none none).run Try.prog W' = .ok v1 W') ∧ v1.ownBlock = v.ownBlock ∧ OwnO W v1 xs := by
  rcases h with ⟨_, hn⟩ | ⟨g, o, c, cur, rfl, h1, h2, h3, h4, h5⟩
  · cases hn
  · refine ⟨g, o, c, rfl, by have := h5 0 (by simp); simpa using this, _, fun W' => slice_one W' _ _ _ (by simp), ?_, ?_⟩
    · split <;> simp [Value.ownBlock, addr_add]
    · simp only [List.length_cons, Nat.add_sub_cancel]
      simp at h1
      by_cases hc : c = 1
      · subst hc
        obtain rfl : xs = [] := List.length_eq_zero_iff.1 (by omega)
        rw [if_pos rfl]
        exact .inr ⟨g, o, 0, cur, rfl, by simp, by unfold maxLen; omega, h3, by omega, fun k hk => by simp at hk⟩
      · rw [if_neg hc]
        refine .inr ⟨g, o + 1, c - 1, cur, by simp [addr_add], by omega, by omega, h3, by omega, fun k hk => ?_⟩
        have h6 := h5 (k + 1) (by simp; omega)
        simp only [List.getElem_cons_succ] at h6
        rw [show o + 1 + k = o + (k + 1) by omega]
        exact h6
theorem RoP.nb {W : World} {b g : Nat} {v : Value} {s : Ro} (h : RoP W b g v s) : v.ownBlock ≠ some b := fun e => by
  obtain ⟨cur, hc⟩ := h.own.kind b e
  rw [h.row] at hc
  simp at hc
set_option maxRecDepth 100000 in
set_option maxHeartbeats 4000000 in
theorem pnext_any (b g : Nat) (s : Ro) (v : Value) (w : World) (h : RoP w b g v s) : Calls Try.prog 79 #[.pointer (some ⟨b, 0, none⟩)] w fun e w' => e = .returned (.int .i64 (outS s)) ∧ (∃ v', RoP w' b g v' { s with outs := s.outs.tail } ∧ v'.ownBlock = v.ownBlock) ∧ Only b w w' := by
  have hnb := h.nb
  obtain ⟨hrow, hown⟩ := h
  have c3 : w.cell? ⟨b, 3, none⟩ = some v := by rw [cell_of_row w b 3 _ _ _ hrow]; rfl
  cases ho : s.outs with
  | nil =>
    have hv : ∃ A c, v = .slice A 0 c := by
      rw [ho] at hown
      rcases hown with ⟨rfl, _⟩ | ⟨_, _, _, _, rfl, _⟩ <;> exact ⟨_, _, rfl⟩
    have HF : Hid ((∃ v', RoP w b g v' { s with outs := s.outs.tail } ∧ v'.ownBlock = v.ownBlock) ∧ Only b w w) := Lib.hid ⟨⟨v, ⟨hrow, by show OwnO w v s.outs.tail; rw [ho]; rw [ho] at hown; exact hown⟩, rfl⟩, Only.refl _ _⟩
    have HO : Hid (outS s = 0) := Lib.hid (by unfold outS; rw [ho]; rfl)
    rw [ho] at HF
    obtain ⟨A, c, rfl⟩ := hv
    clear hrow hown ho hnb
    go_enter Try.func79, Try.ntmps79
    go_wp2
    go_ret
    exact ⟨by rw [HO.out]; rfl, HF.out⟩
  | cons x xs =>
    have hown' := hown
    rw [ho] at hown'
    obtain ⟨e, o, c, rfl, ce, v1, es, hb1, hv1⟩ := owno_tail hown'
    have f3 : w.frozen? ⟨b, 3, none⟩ = false := by simp [World.frozen?, hrow]
    have HF : Hid ((∃ v', RoP (w.setCell ⟨b, 3, none⟩ v1) b g v' { s with outs := xs } ∧ v'.ownBlock = (Value.slice (some ⟨e, o, none⟩) (xs.length + 1) c).ownBlock) ∧ Only b w (w.setCell ⟨b, 3, none⟩ v1)) := Lib.hid ⟨⟨v1, ⟨heap_setCell_same _ _ 3 _ 85 v1 hrow, hv1.keep (fun k hk => Below.heap_setCell _ _ _ _ (by
      show k ≠ b
      intro e
      subst e
      exact hnb (hb1 ▸ hk)))⟩, hb1⟩, (Only.refl b w).set 3 v1⟩
    have HO : Hid (outS s = x) := Lib.hid (by unfold outS; rw [ho]; rfl)
    have en : ((xs.length : Int) + 1 == 0) = false := by simp; omega
    have hvv : ∃ A n c, v1 = .slice A n c := by
      rcases hv1 with ⟨rfl, _⟩ | ⟨_, _, _, _, rfl, _⟩ <;> exact ⟨_, _, _, rfl⟩
    obtain ⟨A2, n2, cp2, rfl⟩ := hvv
    clear hrow hown hown' ho hnb hb1 hv1
    go_enter Try.func79, Try.ntmps79
    go_wp2
    go_ret
    exact ⟨by rw [HO.out]; rfl, HF.out⟩
end Go.Proofs.Ytchaeidmjoelnaa
namespace Go.Proofs.Ytchaeidmjoelnaa
open Go.RowKit

theorem u34 : Try.prog.underlying 40 = some (.struct (Try.prog.fieldsOf 40)) := by kernel_rfl
theorem sh34 : Try.prog.stoodInHeld 40 = false := by kernel_rfl
theorem i34 : (Try.prog.info? 40).map (·.size) = some 2 := by kernel_rfl
theorem eq34 (a b c d : Int) (w : World) : (Op.equalIn 10000 40 (.agg #[.int .i64 a, .int .i64 b]) (.agg #[.int .i64 c, .int .i64 d])).run Try.prog w = .ok (a == c && b == d) w := by
  rw [run_equalIn_agg w 9999 40 _ _ u34 sh34]
  have hf : (Try.prog.fieldsOf 40).toList.map (fun f => (f.type, f.offset, f.name)) = [(3, 0, "Slot"), (3, 1, "Gen")] := by kernel_rfl
  generalize (Try.prog.fieldsOf 40).toList = fs at hf
  rcases fs with _ | ⟨f0, _ | ⟨f1, _ | ⟨f2, fs⟩⟩⟩ <;> simp at hf
  obtain ⟨⟨h1, h2, h3⟩, h4, h5, h6⟩ := hf
  have i3 : ∀ d a b, (Op.equalIn (d + 1) 3 (.int .i64 a) (.int .i64 b)).run Try.prog w = .ok (a == b) w := fun d a b => run_equalIn_int w d 3 .i64 .i64 a b Try.underlying3
  simp [Op.eqFields, h1, h2, h3, h4, h5, h6, part, i3 9998]
  by_cases h7 : a = c <;> by_cases h8 : b = d <;> simp [h7, h8]
theorem But.drewN {b g : Nat} {w W : World} (h : But b g w W) (n : Nat) : But b g w (W.drewN n) := ⟨h.os, by simpa using h.tape, h.output, by simpa using h.size, fun k h1 h2 h3 => by simpa using h.block k h1 h2 h3⟩
theorem But.wide {b g : Nat} {w W : World} (h : But b b w W) : But b g w W := ⟨h.os, h.tape, h.output, h.size, fun k h1 h2 _ => h.block k h1 h2 h2⟩
theorem RoP.but {W W' : World} {b g : Nat} {v : Value} {s : Ro} (h : RoP W b g v s) (hb : W'.heap[b]? = W.heap[b]?) (hk : ∀ k, v.ownBlock = some k → W'.heap[k]? = W.heap[k]?) : RoP W' b g v s := ⟨hb.trans h.row, h.own.keep hk⟩
theorem RoP.drewN {b g n : Nat} {W : World} {v : Value} {s : Ro} (h : RoP W b g v s) : RoP (W.drewN n) b g v s := h.but (by simp) (fun k _ => by simp)
def setS (s : Ro) (gen slot : Int) : Ro := if s.gen < gen then ⟨slot, gen, s.outs, s.writes + 1⟩ else s
def noE (s : Ro) (gen slot : Int) : Int := if gen < s.gen ∨ slot ≠ s.slot then 11 else 0
def setE (s : Ro) (gen slot : Int) : Int := if s.gen < gen then 0 else noE s gen slot
set_option maxRecDepth 100000 in
set_option maxHeartbeats 4000000 in
theorem pset_up (b g : Nat) (s : Ro) (gen slot : Int) (v : Value) (w : World) (h : RoP w b g v s) (hg : s.gen < gen) (hwr : 0 ≤ s.writes ∧ s.writes ≤ 1000000) : Calls Try.prog 80 #[.pointer (some ⟨b, 0, none⟩), .agg #[.int .i64 slot, .int .i64 gen]] w fun e w' => e = .returned (.int .i64 0) ∧ RoP w' b g v ⟨slot, gen, s.outs, s.writes + 1⟩ ∧ But b b w w' := by
  have hnb := h.nb
  have hblt := lt_of_block h.row
  have f3 : decide (s.gen < gen) = true := by simpa using hg
  have HH := Lib.hid h
  have HN := Lib.hid hnb
  have HB := Lib.hid hblt
  have HW := Lib.hid hwr
  have q34 := eq34
  clear h hg hwr hnb hblt
  go_enter Try.func80, Try.ntmps80
  go_upto_region 1 with (fail)
  refine name_w (fun W => W.heap[w.heap.size]? = some (.cells #[.int .i64 slot, .int .i64 gen] 40 (0, 0)) ∧ Below w.heap.size w W) ⟨heap_alloc_new w _, (Below.refl _ _).alloc (Nat.le_refl _) _⟩ ?_
  rintro W ⟨h1, h2⟩
  have hr : W.heap[b]? = _ := (h2.block b HB.out).trans HH.out.row
  have HT := Lib.hid h1
  have HL := Lib.hid h2
  have HR := Lib.hid hr
  have c0 : W.cell? ⟨b, 0, none⟩ = some (.int .i64 s.slot) := by rw [cell_of_row W b 0 _ _ _ hr]; rfl
  have c1 : W.cell? ⟨b, 1, none⟩ = some (.int .i64 s.gen) := by rw [cell_of_row W b 1 _ _ _ hr]; rfl
  have t0 : W.cell? ⟨w.heap.size, 0, none⟩ = some (.int .i64 slot) := by rw [cell_of_row W _ 0 _ _ _ h1]; rfl
  have t1 : W.cell? ⟨w.heap.size, 1, none⟩ = some (.int .i64 gen) := by rw [cell_of_row W _ 1 _ _ _ h1]; rfl
  have c2 : W.cell? ⟨b, 2, none⟩ = some (.int .i64 s.writes) := by rw [cell_of_row W b 2 _ _ _ hr]; rfl
  have q0 : W.frozen? ⟨b, 0, none⟩ = false := by simp [World.frozen?, show W.heap[b]? = _ from hr]
  have q1 : W.frozen? ⟨b, 1, none⟩ = false := by simp [World.frozen?, show W.heap[b]? = _ from hr]
  have q2 : W.frozen? ⟨b, 2, none⟩ = false := by simp [World.frozen?, show W.heap[b]? = _ from hr]
  have ew : IntKind.i64.wrap (s.writes + 1) = s.writes + 1 := IntWalk.i64_in _ (by have := HW.out; omega)
  clear h1 h2 hr
  go_quiet (fail)
  go_upto_region 4 with (fail)
  have hne : w.heap.size ≠ b := by have := HB.out; omega
  refine name_w (fun X => X.heap[w.heap.size]? = some (.cells #[.int .i64 slot, .int .i64 gen] 40 (0, 0)) ∧ RoP X b g v ⟨slot, gen, s.outs, s.writes + 1⟩ ∧ But b b w X) ?_ ?_
  · have hd : (W.drewN nq).heap = W.heap := by simp
    refine ⟨?_, ⟨heap_setCell_same _ _ 2 _ 85 (.int .i64 (s.writes + 1)) (heap_setCell_same _ _ 1 _ 85 (.int .i64 gen) (heap_setCell_same _ _ 0 _ 85 (.int .i64 slot) (by rw [hd]; exact HR.out))), ?_⟩, ?_⟩
    · rw [Below.heap_setCell _ _ _ _ hne, Below.heap_setCell _ _ _ _ hne, Below.heap_setCell _ _ _ _ hne, hd]
      exact HT.out
    · refine HH.out.own.keep (fun k hk => ?_)
      have hkb : k ≠ b := fun e => HN.out (e ▸ hk)
      rw [Below.heap_setCell _ _ _ _ hkb, Below.heap_setCell _ _ _ _ hkb, Below.heap_setCell _ _ _ _ hkb, hd]
      exact HL.out.block k (HH.out.own.lt k hk)
    · have hb : But b b w (W.drewN nq) := (But.of_below HL.out).drewN nq
      exact ((hb.set 0 _).set 1 _).set 2 _
  clear c0 c1 c2 t0 t1 q0 q1 q2 HT HL HR hne f3
  rintro X ⟨h1, h2, h3⟩
  have hr := h2.row
  have c0 : X.cell? ⟨b, 0, none⟩ = some (.int .i64 slot) := by rw [cell_of_row X b 0 _ _ _ hr]; rfl
  have c1 : X.cell? ⟨b, 1, none⟩ = some (.int .i64 gen) := by rw [cell_of_row X b 1 _ _ _ hr]; rfl
  have t0 : X.cell? ⟨w.heap.size, 0, none⟩ = some (.int .i64 slot) := by rw [cell_of_row X _ 0 _ _ _ h1]; rfl
  have t1 : X.cell? ⟨w.heap.size, 1, none⟩ = some (.int .i64 gen) := by rw [cell_of_row X _ 1 _ _ _ h1]; rfl
  have HP := Lib.hid h2
  have HQ := Lib.hid h3
  clear h1 h2 h3 hr
  go_quiet (fail)
  go_wp2
  go_ret
  exact ⟨rfl, HP.out.but (by simp) (fun k _ => by simp), HQ.out.drewN _⟩


set_option maxRecDepth 100000 in
set_option maxHeartbeats 4000000 in
theorem pset_no (b g : Nat) (s : Ro) (gen slot : Int) (v : Value) (w : World) (h : RoP w b g v s) (hg : ¬ s.gen < gen) : Calls Try.prog 80 #[.pointer (some ⟨b, 0, none⟩), .agg #[.int .i64 slot, .int .i64 gen]] w fun e w' => e = .returned (.int .i64 (noE s gen slot)) ∧ RoP w' b g v s ∧ But b b w w' := by
  have hblt := lt_of_block h.row
  have f3 : decide (s.gen < gen) = false := by simpa using hg
  have HH := Lib.hid h
  have HB := Lib.hid hblt
  have HG := Lib.hid hg
  have q34 := eq34
  clear h hg hblt
  go_enter Try.func80, Try.ntmps80
  go_upto_region 1 with (fail)
  refine name_w (fun W => W.heap[w.heap.size]? = some (.cells #[.int .i64 slot, .int .i64 gen] 40 (0, 0)) ∧ Below w.heap.size w W) ⟨heap_alloc_new w _, (Below.refl _ _).alloc (Nat.le_refl _) _⟩ ?_
  rintro W ⟨h1, h2⟩
  have hr : W.heap[b]? = _ := (h2.block b HB.out).trans HH.out.row
  have c0 : W.cell? ⟨b, 0, none⟩ = some (.int .i64 s.slot) := by rw [cell_of_row W b 0 _ _ _ hr]; rfl
  have c1 : W.cell? ⟨b, 1, none⟩ = some (.int .i64 s.gen) := by rw [cell_of_row W b 1 _ _ _ hr]; rfl
  have t0 : W.cell? ⟨w.heap.size, 0, none⟩ = some (.int .i64 slot) := by rw [cell_of_row W _ 0 _ _ _ h1]; rfl
  have t1 : W.cell? ⟨w.heap.size, 1, none⟩ = some (.int .i64 gen) := by rw [cell_of_row W _ 1 _ _ _ h1]; rfl
  have HP : Hid (∀ n, RoP (W.drewN n) b g v s) := Lib.hid (fun n => (HH.out.but (h2.block b HB.out) (fun k hk => h2.block k (HH.out.own.lt k hk))).drewN)
  have HQ : Hid (∀ n, But b b w (W.drewN n)) := Lib.hid (fun n => (But.of_below h2).drewN n)
  clear h1 h2 hr HH HB
  go_quiet (fail)
  by_cases hs : slot = s.slot
  case neg =>
    have es : (slot == s.slot) = false := by simpa using hs
    have HE : Hid (noE s gen slot = 11) := Lib.hid (if_pos (.inr hs))
    clear hs
    go_upto_region 4 with (fail)
    go_quiet (fail)
    go_wp2
    go_ret
    exact ⟨by rw [HE.out]; rfl, by simpa using HP.out _, by simpa using HQ.out _⟩
  have es : (slot == s.slot) = true := by simpa using hs
  by_cases hl : gen < s.gen
  case pos =>
    have el : (gen == s.gen) = false := by simp; omega
    have HE : Hid (noE s gen slot = 11) := Lib.hid (if_pos (.inl hl))
    clear hs hl
    go_upto_region 4 with (fail)
    go_quiet (fail)
    go_wp2
    go_ret
    exact ⟨by rw [HE.out]; rfl, by simpa using HP.out _, by simpa using HQ.out _⟩
  have el : (gen == s.gen) = true := by have := HG.out; simp; omega
  have HE : Hid (noE s gen slot = 0) := Lib.hid (if_neg (fun h => h.elim hl (fun h => h hs)))
  clear hs hl
  go_upto_region 4 with (fail)
  go_quiet (fail)
  go_wp2
  go_ret
  exact ⟨by rw [HE.out]; rfl, by simpa using HP.out _, by simpa using HQ.out _⟩
theorem pset_any (b g : Nat) (s : Ro) (gen slot : Int) (v : Value) (w : World) (h : RoP w b g v s) (hwr : 0 ≤ s.writes ∧ s.writes ≤ 1000000) : Calls Try.prog 80 #[.pointer (some ⟨b, 0, none⟩), .agg #[.int .i64 slot, .int .i64 gen]] w fun e w' => e = .returned (.int .i64 (setE s gen slot)) ∧ RoP w' b g v (setS s gen slot) ∧ But b b w w' := by
  unfold setE setS
  by_cases hg : s.gen < gen
  · rw [if_pos hg, if_pos hg]
    exact pset_up b g s gen slot v w h hg hwr
  · rw [if_neg hg, if_neg hg]
    exact pset_no b g s gen slot v w h hg
set_option maxRecDepth 100000 in
set_option maxHeartbeats 4000000 in
theorem rnew_any (g : Nat) (w : World) : Calls Try.prog 23 #[.pointer (some ⟨g, 0, none⟩)] w fun e w' => e = .returned (.pointer (some ⟨w.heap.size, 0, none⟩)) ∧ RoP w' w.heap.size g (.slice none 0 0) ⟨0, 0, [], 0⟩ ∧ Below w.heap.size w w' ∧ w'.heap.size = w.heap.size + 1 := by
  go_enter Try.func23, Try.ntmps23
  go_wp2
  go_ret
  exact ⟨rfl, ⟨heap_alloc_new w _, .inl ⟨rfl, rfl⟩⟩, (Below.refl _ _).alloc (Nat.le_refl _) _, by simp⟩
set_option maxRecDepth 100000 in
set_option maxHeartbeats 4000000 in
theorem pcell_any (b g : Nat) (s : Ro) (v : Value) (w : World) (h : RoP w b g v s) : Calls Try.prog 27 #[.pointer (some ⟨b, 0, none⟩)] w fun e w' => e = .returned (.agg #[.int .i64 s.slot, .int .i64 s.gen]) ∧ Below w.heap.size w w' ∧ w'.heap.size = w.heap.size + 1 := by
  have hlt := lt_of_block h.row
  have c0 : w.cell? ⟨b, 0, none⟩ = some (.int .i64 s.slot) := by rw [cell_of_row w b 0 _ _ _ h.row]; rfl
  have c1 : w.cell? ⟨b, 1, none⟩ = some (.int .i64 s.gen) := by rw [cell_of_row w b 1 _ _ _ h.row]; rfl
  have hb : b ≠ w.heap.size := by omega
  clear h
  go_enter Try.func27, Try.ntmps27
  go_upto_region 1 with (fail)
  have hn := heap_alloc_new w (.cells #[.int .i64 0, .int .i64 0] 40)
  refine name_w (fun W => W.heap[w.heap.size]? = some (.cells #[.int .i64 0, .int .i64 0] 40 (0, 0)) ∧ Below w.heap.size w W ∧ W.heap.size = w.heap.size + 1) ⟨hn, (Below.refl _ _).alloc (Nat.le_refl _) _, by simp⟩ ?_
  rintro W ⟨h1, h2, h3⟩
  have d0 : W.cell? ⟨b, 0, none⟩ = some (.int .i64 s.slot) := (h2.cell (p := ⟨b, 0, none⟩) hlt).trans c0
  have d1 : W.cell? ⟨b, 1, none⟩ = some (.int .i64 s.gen) := (h2.cell (p := ⟨b, 1, none⟩) hlt).trans c1
  have t0 : W.cell? ⟨w.heap.size, 0, none⟩ = some (.int .i64 0) := by rw [cell_of_row W _ 0 _ _ _ h1]; rfl
  have t1 : W.cell? ⟨w.heap.size, 1, none⟩ = some (.int .i64 0) := by rw [cell_of_row W _ 1 _ _ _ h1]; rfl
  have q0 : W.frozen? ⟨w.heap.size, 0, none⟩ = false := by simp [World.frozen?, h1]
  have q1 : W.frozen? ⟨w.heap.size, 1, none⟩ = false := by simp [World.frozen?, h1]
  have HZ := Lib.hid (heap_setCell_same _ _ 1 _ 40 (.int .i64 s.gen) (heap_setCell_same _ _ 0 _ 40 (.int .i64 s.slot) h1))
  have HQ : Hid (Below w.heap.size w ((W.setCell ⟨w.heap.size, 0, none⟩ (.int .i64 s.slot)).setCell ⟨w.heap.size, 1, none⟩ (.int .i64 s.gen)) ∧ ((W.setCell ⟨w.heap.size, 0, none⟩ (.int .i64 s.slot)).setCell ⟨w.heap.size, 1, none⟩ (.int .i64 s.gen)).heap.size = w.heap.size + 1) := Lib.hid ⟨⟨h2.os, h2.tape, h2.output, by simpa [World.setCell] using h2.size, fun k hk => ((Below.heap_setCell _ ⟨w.heap.size, 1, none⟩ _ k (by show k ≠ w.heap.size; omega)).trans (Below.heap_setCell _ ⟨w.heap.size, 0, none⟩ _ k (by show k ≠ w.heap.size; omega))).trans (h2.block k hk)⟩, by simpa [World.setCell] using h3⟩
  clear h1 h2 h3 hn c0 c1 hlt
  go_wp2
  refine bodyPost_ret (results_cell_row rfl _ _ w.heap.size 40 #[.int .i64 s.slot, .int .i64 s.gen] (0, 0) _ rfl HZ.out u34 rfl i34) rfl ?_
  exact ⟨rfl, HQ.out⟩
end Go.Proofs.Ytchaeidmjoelnaa
namespace Go.Proofs.Ytchaeidmjoelnaa
open Go.RowKit

theorem pspend_any (g : Nat) (f : Fu) (w : World) (hf : Fine f) (h : Fz w g 87 f) : Calls Try.prog 78 #[.pointer (some ⟨g, 0, none⟩)] w fun e w' => e = .returned (.bool (bears f)) ∧ Fz w' g 87 (spent f) ∧ Only g w w' := by
  obtain ⟨a, l, bl, c⟩ := f
  obtain ⟨h1, _, h3⟩ := hf
  simp only at h1 h3
  cases a with
  | false => exact spend_free g l bl c w h3.1 h3.2 h
  | true =>
    by_cases hl : l = 0
    · subst hl
      exact spend_no g bl c w h
    · have e : bears ⟨true, l, bl, c⟩ = true := by simp [bears, hl]
      have h4 := spend_some g l bl c w (by have := h1 rfl; omega) (h1 rfl).2 h3.1 h3.2 h
      unfold spent
      rw [e, if_pos rfl]
      exact h4
theorem RoP.ng {W : World} {b g : Nat} {v : Value} {s : Ro} {f : Fu} {t : TypeId} (h : RoP W b g v s) (hf : Fz W g t f) (ht : t ≠ 3) : v.ownBlock ≠ some g := fun e => by
  obtain ⟨cur, hc⟩ := h.own.kind g e
  unfold Fz at hf
  rw [hf] at hc
  simp at hc
  exact ht hc.2
theorem RoP.only {W W' : World} {b g : Nat} {v : Value} {s : Ro} {f : Fu} (h : RoP W b g v s) (hf : Fz W g 87 f) (hbg : b ≠ g) (ho : Only g W W') : RoP W' b g v s :=
  h.but (ho.block b hbg) (fun k hk => ho.block k (fun e => h.ng hf (by decide) (e ▸ hk)))
set_option maxRecDepth 100000 in
set_option maxHeartbeats 4000000 in
theorem pcall_range (b : Nat) (gen slot : Int) (w : World) (hr : ¬ inRange gen slot) : Calls Try.prog 62 #[.pointer (some ⟨b, 0, none⟩), .int .i64 gen, .int .i64 slot] w fun e w' => e = .returned (.int .i64 1) ∧ w = w' := by
  have H : Hid (decide (inRange gen slot) = false) := Lib.hid (decide_eq_false hr)
  clear hr
  go_enter Try.func62, Try.ntmps62
  go_wp2_with fail
  refine (rright_any gen slot w).mono ?_
  rintro e w1 ⟨rfl, rfl⟩
  rw [H.out]
  go_wp2
  go_ret
  exact ⟨rfl, rfl⟩
set_option maxRecDepth 100000 in
set_option maxHeartbeats 4000000 in
theorem pcall_halt (b g : Nat) (s : Ro) (f : Fu) (gen slot : Int) (v : Value) (w : World) (h : RoP w b g v s) (hz : Fz w g 87 f) (hbg : b ≠ g) (hr : inRange gen slot) (hf : Fine f) (hb : bears f = false) : Calls Try.prog 62 #[.pointer (some ⟨b, 0, none⟩), .int .i64 gen, .int .i64 slot] w fun e w' => e = .returned (.int .i64 2) ∧ (∃ v', RoP w' b g v' s ∧ New w v v') ∧ Fz w' g 87 (spent f) ∧ But b g w w' := by
  have H : Hid (decide (inRange gen slot) = true) := Lib.hid (decide_eq_true hr)
  have c4 : w.cell? ⟨b, 4, none⟩ = some (.pointer (some ⟨g, 0, none⟩)) := by rw [cell_of_row w b 4 _ _ _ h.row]; rfl
  have HS := Lib.hid (pspend_any g f w hf hz)
  rw [hb] at HS
  have HK : Hid (∀ w1, Only g w w1 → (∃ v', RoP w1 b g v' s ∧ New w v v') ∧ But b g w w1) := Lib.hid (fun w1 ho => ⟨⟨v, h.only hz hbg ho, fun _ h => .inl h⟩, But.only ho⟩)
  clear hr h hz hbg hf hb
  go_enter Try.func62, Try.ntmps62
  go_wp2_with fail
  refine (rright_any gen slot w).mono ?_
  rintro e w1 ⟨rfl, rfl⟩
  rw [H.out]
  go_wp2_with fail
  refine HS.out.mono ?_
  rintro e w2 ⟨rfl, hz2, ho⟩
  have HZ := Lib.hid hz2
  have HE := Lib.hid (HK.out w2 ho)
  clear hz2 ho HK HS c4
  go_wp2
  go_ret
  exact ⟨rfl, HE.out.1, HZ.out, HE.out.2⟩
/-- What lies there behind the fuse's Spend and next. -/
structure Took (w : World) (b g : Nat) (v : Value) (s : Ro) (f' : Fu) (W : World) : Prop where
  ro : ∃ v', RoP W b g v' { s with outs := s.outs.tail } ∧ v'.ownBlock = v.ownBlock
  fz : Fz W g 87 f'
  but : But b g w W
theorem Took.put {w W W' : World} {b g : Nat} {v v' : Value} {s s' : Ro} {f' : Fu} (h : Took w b g v s f' W) (hbg : b ≠ g) (hv : v'.ownBlock = v.ownBlock) (hr : RoP W' b g v' s') (hb : But b b W W') : (∃ v', RoP W' b g v' s' ∧ New w v v') ∧ Fz W' g 87 f' ∧ But b g w W' :=
  ⟨⟨v', hr, fun _ hk => .inl (hv ▸ hk)⟩, (hb.block g h.fz.lt (Ne.symm hbg) (Ne.symm hbg)).trans h.fz, h.but.trans hb.wide⟩
set_option maxRecDepth 100000 in
set_option maxHeartbeats 4000000 in
theorem pcall_done (b g : Nat) (s : Ro) (f : Fu) (gen slot : Int) (v : Value) (w : World) (h : RoP w b g v s) (hz : Fz w g 87 f) (hbg : b ≠ g) (hr : inRange gen slot) (hf : Fine f) (hb : bears f = true) (hwr : 0 ≤ s.writes ∧ s.writes ≤ 1000000) : Calls Try.prog 62 #[.pointer (some ⟨b, 0, none⟩), .int .i64 gen, .int .i64 slot] w fun e w' => e = .returned (.int .i64 (callE s gen slot)) ∧ (∃ v', RoP w' b g v' (callS s gen slot) ∧ New w v v') ∧ Fz w' g 87 (spent f) ∧ But b g w w' := by
  have H : Hid (decide (inRange gen slot) = true) := Lib.hid (decide_eq_true hr)
  have c4 : w.cell? ⟨b, 4, none⟩ = some (.pointer (some ⟨g, 0, none⟩)) := by rw [cell_of_row w b 4 _ _ _ h.row]; rfl
  have HS := Lib.hid (pspend_any g f w hf hz)
  rw [hb] at HS
  have HK : Hid (∀ w1, Only g w w1 → RoP w1 b g v s) := Lib.hid (fun w1 ho => h.only hz hbg ho)
  have HBG := Lib.hid hbg
  have HWR := Lib.hid hwr
  clear hr h hz hbg hf hb hwr
  go_enter Try.func62, Try.ntmps62
  go_wp2_with fail
  refine (rright_any gen slot w).mono ?_
  rintro e w1 ⟨rfl, rfl⟩
  rw [H.out]
  go_wp2_with fail
  refine HS.out.mono ?_
  rintro e w2 ⟨rfl, hz2, ho⟩
  have HR2 := Lib.hid (HK.out w2 ho)
  have HZ2 := Lib.hid hz2
  have HO2 := Lib.hid ho
  clear hz2 ho HK HS c4
  go_wp2_with fail
  refine (pnext_any b g s v w2 HR2.out).mono ?_
  rintro e w3 ⟨rfl, h3, o3⟩
  have HT : Hid (Took w b g v s (spent f) w3) := Lib.hid ⟨h3, HZ2.out.only o3 (Ne.symm HBG.out), (But.only HO2.out).trans ⟨o3.os, o3.tape, o3.output, by rw [o3.size]; exact Nat.le_refl _, fun k _ h1 _ => o3.block k h1⟩⟩
  clear h3 o3 HR2 HZ2 HO2
  by_cases h2 : outS s = 2
  case pos =>
    have HE : Hid (callE s gen slot = 10) := Lib.hid (by unfold callE; rw [if_pos h2])
    have HC : Hid (callS s gen slot = { s with outs := s.outs.tail }) := Lib.hid (by unfold callS; rw [if_pos h2])
    rw [h2]
    clear h2
    go_wp2
    go_ret
    obtain ⟨v', hv1, hv2⟩ := HT.out.ro
    exact ⟨by rw [HE.out]; rfl, by rw [HC.out]; exact HT.out.put HBG.out hv2 hv1 (But.refl _ _ _)⟩
  have e2 : (outS s == 2) = false := by simpa using h2
  have N2 := Lib.hid h2
  clear h2
  have HCS : Hid (callS s gen slot = setS { s with outs := s.outs.tail } gen slot) := Lib.hid (by unfold callS setS; rw [if_neg N2.out])
  obtain ⟨v', hv1, hv2⟩ := HT.out.ro
  have HV := Lib.hid hv2
  have HPS := Lib.hid (pset_any b g { s with outs := s.outs.tail } gen slot v' w3 hv1 HWR.out)
  clear hv1 hv2
  by_cases h1 : outS s = 1
  case pos =>
    have HE : Hid (callE s gen slot = 10) := Lib.hid (by unfold callE; rw [if_neg N2.out, if_pos h1])
    rw [h1]
    clear h1 e2
    go_wp2_with fail
    refine HPS.out.mono ?_
    rintro e w4 ⟨rfl, hr4, hb4⟩
    have HF := Lib.hid (HT.out.put HBG.out HV.out hr4 hb4)
    clear hr4 hb4 HPS
    go_wp2
    go_ret
    exact ⟨by rw [HE.out]; rfl, by rw [HCS.out]; exact HF.out⟩
  have e1 : (outS s == 1) = false := by simpa using h1
  have HE : Hid (callE s gen slot = setE { s with outs := s.outs.tail } gen slot) := Lib.hid (by unfold callE setE noE; rw [if_neg N2.out, if_neg h1])
  clear h1
  go_wp2_with fail
  refine HPS.out.mono ?_
  rintro e w4 ⟨rfl, hr4, hb4⟩
  have HF := Lib.hid (HT.out.put HBG.out HV.out hr4 hb4)
  clear hr4 hb4 HPS
  go_wp2
  go_ret
  exact ⟨by rw [HE.out]; rfl, by rw [HCS.out]; exact HF.out⟩
theorem pcall_any (b g : Nat) (s : Ro) (f : Fu) (gen slot : Int) (v : Value) (w : World) (h : RoP w b g v s) (hz : Fz w g 87 f) (hbg : b ≠ g) (hf : Fine f) (hwr : 0 ≤ s.writes ∧ s.writes ≤ 1000000) :
    Calls Try.prog 62 #[.pointer (some ⟨b, 0, none⟩), .int .i64 gen, .int .i64 slot] w fun e w' => e = .returned (.int .i64 (toldC s f gen slot)) ∧ (∃ v', RoP w' b g v' (leftC s f gen slot) ∧ New w v v') ∧ Fz w' g 87 (fuseC f gen slot) ∧ But b g w w' := by
  unfold toldC leftC fuseC
  by_cases hr : inRange gen slot
  · rw [if_pos hr, if_pos hr, if_pos hr]
    cases hb : bears f with
    | false =>
      rw [if_neg (by decide), if_neg (by decide)]
      exact pcall_halt b g s f gen slot v w h hz hbg hr hf hb
    | true =>
      rw [if_pos rfl, if_pos rfl]
      exact pcall_done b g s f gen slot v w h hz hbg hr hf hb hwr
  · rw [if_neg hr, if_neg hr, if_neg hr]
    exact (pcall_range b gen slot w hr).mono fun e w' ⟨he, hw⟩ => by
      subst hw
      exact ⟨he, ⟨v, h, fun _ h => .inl h⟩, hz, But.refl _ _ _⟩
end Go.Proofs.Ytchaeidmjoelnaa
namespace Go.Proofs.Ytchaeidmjoelnaa
open Go.RowKit

/-- What is left alone: all below B, and every block that is no router's, no fuse's and no row of numbers. -/
structure TurnR (B : Nat) (w w' : World) : Prop where
  os : w'.os = w.os
  tape : w'.tape = w.tape
  output : w'.output = w.output
  size : w.heap.size ≤ w'.heap.size
  low : ∀ k : Nat, k < B → w'.heap[k]? = w.heap[k]?
  kind : ∀ (k : Nat) (cur : Array Value) (t : TypeId), t ≠ 85 → t ≠ 87 → t ≠ 3 → w.heap[k]? = some (Obj.cells cur t (0, 0)) → w'.heap[k]? = some (Obj.cells cur t (0, 0))
theorem TurnR.refl (B : Nat) (w : World) : TurnR B w w := ⟨rfl, rfl, rfl, Nat.le_refl _, fun _ _ => rfl, fun _ _ _ _ _ _ h => h⟩
theorem TurnR.trans {B : Nat} {w w' w'' : World} (h : TurnR B w w') (k : TurnR B w' w'') : TurnR B w w'' :=
  ⟨k.os.trans h.os, k.tape.trans h.tape, k.output.trans h.output, Nat.le_trans h.size k.size, fun j hj => (k.low j hj).trans (h.low j hj), fun j cur t h1 h2 h3 h4 => k.kind j cur t h1 h2 h3 (h.kind j cur t h1 h2 h3 h4)⟩
theorem TurnR.of_below {B : Nat} {w w' : World} (h : Below w.heap.size w w') (hB : B ≤ w.heap.size) : TurnR B w w' :=
  ⟨h.os, h.tape, h.output, h.size, fun k hk => h.block k (by omega), fun k _ _ _ _ _ h4 => (h.block k (lt_of_block h4)).trans h4⟩
theorem TurnR.below {B : Nat} {a w w' : World} (h : TurnR B w w') (hb : Below B a w) : Below B a w' :=
  ⟨h.os.trans hb.os, h.tape.trans hb.tape, h.output.trans hb.output, Nat.le_trans hb.size h.size, fun k hk => (h.low k hk).trans (hb.block k hk)⟩
theorem TurnR.drewN {B n : Nat} {w w' : World} (h : TurnR B w w') : TurnR B w (w'.drewN n) := h.trans ⟨rfl, rfl, rfl, Nat.le_refl _, fun _ _ => rfl, fun _ _ _ _ _ _ h => h⟩
/-- A router with its fuse, all of it from block B on. -/
structure Pk (W : World) (B b g : Nat) (s : Ro) (f : Fu) : Prop where
  ro : ∃ v, RoP W b g v s ∧ ∀ k, v.ownBlock = some k → B ≤ k
  fz : Fz W g 87 f
  hb : B ≤ b
  hg : B ≤ g
theorem Pk.ne {W : World} {B b g : Nat} {s : Ro} {f : Fu} (h : Pk W B b g s f) : b ≠ g := fun e => by
  obtain ⟨v, hr, _⟩ := h.ro
  have h1 := hr.row
  have h2 := h.fz
  unfold Fz at h2
  rw [e, h2] at h1
  simp at h1
theorem Pk.le {W : World} {B b g : Nat} {s : Ro} {f : Fu} (h : Pk W B b g s f) : B ≤ W.heap.size := Nat.le_trans h.hg (Nat.le_of_lt h.fz.lt)
theorem TurnR.of_buto {B b g : Nat} {v : Value} {w w' : World} {s : Ro} {f : Fu} (hr : RoP w b g v s) (hz : Fz w g 87 f) (hb : B ≤ b) (hg : B ≤ g) (hv : ∀ k, v.ownBlock = some k → B ≤ k) (h : ButR b g v w w') : TurnR B w w' :=
  ⟨h.os, h.tape, h.output, h.size, fun k hk => h.block k (by have := lt_of_block hr.row; omega) (by omega) (by omega) (fun e => by have := hv k e; omega), fun k cur t h1 h2 h3 h4 => (h.block k (lt_of_block h4) (fun e => by
    rw [e, hr.row] at h4
    simp at h4
    exact h1 h4.2.symm) (fun e => by
    unfold Fz at hz
    rw [e, hz] at h4
    simp at h4
    exact h2 h4.2.symm) (fun e => by
    obtain ⟨c, hc⟩ := hr.own.kind k e
    rw [hc] at h4
    simp at h4
    exact h3 h4.2.symm)).trans h4⟩
/-- Nothing of it turned. -/
theorem Pk.keep {W W' : World} {B b g : Nat} {s : Ro} {f : Fu} (h : Pk W B b g s f) (hk : ∀ k, k < W.heap.size → W'.heap[k]? = W.heap[k]?) : Pk W' B b g s f := by
  obtain ⟨⟨v, hr, hv⟩, hz, hb, hg⟩ := h
  exact ⟨⟨v, hr.but (hk b (lt_of_block hr.row)) (fun k h => hk k (hr.own.lt k h)), hv⟩, (hk g hz.lt).trans hz, hb, hg⟩
theorem Pk.under {W W' : World} {B b g : Nat} {s : Ro} {f : Fu} (h : Pk W B b g s f) (hk : Below W.heap.size W W') : Pk W' B b g s f := h.keep hk.block
theorem Pk.drewN {W : World} {B b g n : Nat} {s : Ro} {f : Fu} (h : Pk W B b g s f) : Pk (W.drewN n) B b g s f := h.keep (fun _ _ => rfl)
/-- A cell of another block is written. -/
theorem Pk.set {W : World} {B b g X i : Nat} {s : Ro} {f : Fu} {cur : Array Value} {t : TypeId} {u : Value} (h : Pk W B b g s f) (hX : W.heap[X]? = some (.cells cur t (0, 0))) (h1 : t ≠ 85) (h2 : t ≠ 87) (h3 : t ≠ 3) : Pk (W.setCell ⟨X, i, none⟩ u) B b g s f := by
  obtain ⟨⟨v, hr, hv⟩, hz, hb, hg⟩ := h
  have k1 : b ≠ X := fun e => by
    have h4 := hr.row
    rw [e, hX] at h4
    simp at h4
    exact h1 h4.2
  have k2 : g ≠ X := fun e => by
    unfold Fz at hz
    rw [e, hX] at hz
    simp at hz
    exact h2 hz.2
  have k3 : ∀ k, v.ownBlock = some k → k ≠ X := fun k hk e => by
    obtain ⟨c, hc⟩ := hr.own.kind k hk
    rw [e, hX] at hc
    simp at hc
    exact h3 hc.2
  refine ⟨⟨v, hr.but (Below.heap_setCell _ _ _ _ k1) (fun k hk => Below.heap_setCell _ _ _ _ (k3 k hk)), hv⟩, ?_, hb, hg⟩
  unfold Fz
  rw [Below.heap_setCell _ _ _ _ k2]
  exact hz
theorem pk_new (B g : Nat) (f : Fu) (w : World) (hz : Fz w g 87 f) (hg : B ≤ g) : Calls Try.prog 23 #[.pointer (some ⟨g, 0, none⟩)] w fun e w' => ∃ b, e = .returned (.pointer (some ⟨b, 0, none⟩)) ∧ Pk w' B b g ⟨0, 0, [], 0⟩ f ∧ Below w.heap.size w w' :=
  (rnew_any g w).mono fun e w' ⟨he, hr, hb, _⟩ => ⟨w.heap.size, he, ⟨⟨_, hr, fun k hk => by cases hk⟩, (hb.block g hz.lt).trans hz, by have := hz.lt; omega, hg⟩, hb⟩
theorem pk_call (B b g : Nat) (s : Ro) (f : Fu) (gen slot : Int) (w : World) (h : Pk w B b g s f) (hf : Fine f) (hwr : 0 ≤ s.writes ∧ s.writes ≤ 1000000) :
    Calls Try.prog 62 #[.pointer (some ⟨b, 0, none⟩), .int .i64 gen, .int .i64 slot] w fun e w' => e = .returned (.int .i64 (toldC s f gen slot)) ∧ Pk w' B b g (leftC s f gen slot) (fuseC f gen slot) ∧ TurnR B w w' := by
  have hne := h.ne
  have hle := h.le
  obtain ⟨⟨v, hr, hv⟩, hz, hb, hg⟩ := h
  exact (pcall_any b g s f gen slot v w hr hz hne hf hwr).mono fun e w' ⟨he, ⟨v', hr', hn⟩, hz', hb'⟩ => ⟨he, ⟨⟨v', hr', hn.ge hv hle⟩, hz', hb, hg⟩, .of_buto hr hz hb hg hv (.of_but hb')⟩
theorem pk_script (B b g : Nat) (s : Ro) (f : Fu) (l : Value) (xs : List Int) (w : World) (h : Pk w B b g s f) (hl : IntsI w l xs) (hn : s.outs.length + xs.length ≤ 100000000) :
    Calls Try.prog 33 #[.pointer (some ⟨b, 0, none⟩), l] w fun e w' => e = .returned (.tuple #[]) ∧ Pk w' B b g { s with outs := s.outs ++ xs } f ∧ TurnR B w w' := by
  have hne := h.ne
  have hle := h.le
  obtain ⟨⟨v, hr, hv⟩, hz, hb, hg⟩ := h
  refine (pscript_any b g s l xs v w hr hl hn).mono fun e w' ⟨he, ⟨v', hr', hn⟩, hb'⟩ => ⟨he, ⟨⟨v', hr', hn.ge hv hle⟩, ?_, hb, hg⟩, .of_buto hr hz hb hg hv hb'.wide⟩
  exact (hb'.block g hz.lt (Ne.symm hne) (Ne.symm hne) (hr.ng hz (by decide))).trans hz
theorem pk_cell (B b g : Nat) (s : Ro) (f : Fu) (w : World) (h : Pk w B b g s f) : Calls Try.prog 27 #[.pointer (some ⟨b, 0, none⟩)] w fun e w' => e = .returned (.agg #[.int .i64 s.slot, .int .i64 s.gen]) ∧ Below w.heap.size w w' := by
  obtain ⟨v, hr, _⟩ := h.ro
  exact (pcell_any b g s v w hr).mono fun e w' ⟨he, hb, _⟩ => ⟨he, hb⟩
theorem pk_only {B b g : Nat} {s : Ro} {f f' : Fu} {w w' : World} (h : Pk w B b g s f) (hz : Fz w' g 87 f') (ho : Only g w w') : Pk w' B b g s f' ∧ TurnR B w w' := by
  have hne := h.ne
  obtain ⟨⟨v, hr, hv⟩, hz0, hb, hg⟩ := h
  exact ⟨⟨⟨v, hr.only hz0 hne ho, hv⟩, hz, hb, hg⟩, .of_buto hr hz0 hb hg hv (.of_but (.only ho))⟩
/-- Bounds behind n calls. -/
structure Bd (n : Nat) (s : Ro) (f : Fu) : Prop where
  left : f.armed = true → 0 ≤ f.left ∧ f.left ≤ 9223372036854775807
  blown : f.blown = true → f.armed = true ∧ f.left = 0
  count : 0 ≤ f.count ∧ f.count ≤ n
  writes : 0 ≤ s.writes ∧ s.writes ≤ n
  outs : s.outs.length ≤ 100 * n
theorem Bd.fine {n : Nat} {s : Ro} {f : Fu} (h : Bd n s f) (hn : n < 1000000) : Fine f := ⟨h.left, h.blown, by have := h.count; omega⟩
theorem Bd.wr {n : Nat} {s : Ro} {f : Fu} (h : Bd n s f) (hn : n < 1000000) : 0 ≤ s.writes ∧ s.writes ≤ 1000000 := by have := h.writes; omega
theorem bd0 : Bd 0 ⟨0, 0, [], 0⟩ ⟨false, 0, false, 0⟩ := ⟨fun h => (by cases h), fun h => (by cases h), by simp, by simp, by simp⟩
theorem callS_outs (s : Ro) (gen slot : Int) : (callS s gen slot).outs = s.outs.tail := by
  unfold callS
  split
  · rfl
  · split <;> rfl
theorem callS_writes (s : Ro) (gen slot : Int) : (callS s gen slot).writes = s.writes ∨ (callS s gen slot).writes = s.writes + 1 := by
  unfold callS
  split
  · exact .inl rfl
  · split
    · exact .inr rfl
    · exact .inl rfl
theorem Bd.call {n : Nat} {s : Ro} {f : Fu} (h : Bd n s f) (gen slot : Int) : Bd (n + 1) (leftC s f gen slot) (fuseC f gen slot) := by
  obtain ⟨h1, h2, h3, h4, h5⟩ := h
  have key : Bd (n + 1) s f := ⟨h1, h2, by omega, by omega, by omega⟩
  unfold leftC fuseC
  by_cases hr : inRange gen slot
  · rw [if_pos hr, if_pos hr]
    unfold spent
    cases hb : bears f with
    | false =>
      rw [if_neg (by decide), if_neg (by decide)]
      simp [bears] at hb
      exact ⟨h1, fun _ => hb, by simp only; omega, by omega, by omega⟩
    | true =>
      rw [if_pos rfl, if_pos rfl]
      have hb : f.armed = true → ¬ f.left = 0 := fun ha h0 => by simp [bears, ha, h0] at hb
      refine ⟨?_, ?_, ?_, ?_, ?_⟩
      · intro ha
        simp only at ha ⊢
        have := hb ha
        have := h1 ha
        rw [if_pos ha]
        omega
      · intro ha
        exact absurd (h2 ha).2 (hb (h2 ha).1)
      · simp only; omega
      · rcases callS_writes s gen slot with e | e <;> rw [e] <;> omega
      · rw [callS_outs, List.length_tail]; omega
  · rw [if_neg hr, if_neg hr]
    exact key
theorem Bd.script {n : Nat} {s : Ro} {f : Fu} (h : Bd n s f) (xs : List Int) (hx : xs.length ≤ 100) : Bd (n + 1) { s with outs := s.outs ++ xs } f := by
  obtain ⟨h1, h2, h3, h4, h5⟩ := h
  exact ⟨h1, h2, by omega, by simp only; omega, by simp only [List.length_append]; omega⟩
theorem Bd.arm {n : Nat} {s : Ro} {f : Fu} (h : Bd n s f) (a : Int) (ha : Fits a) : Bd (n + 1) s ⟨true, max a 0, false, f.count⟩ := by
  obtain ⟨h1, h2, h3, h4, h5⟩ := h
  unfold Fits at ha
  exact ⟨fun _ => by simp only; omega, fun h => (by cases h), by simp only; omega, by omega, by omega⟩
theorem Bd.reset {n : Nat} {s : Ro} {f : Fu} (h : Bd n s f) (l : Int) : Bd (n + 1) s ⟨false, l, false, f.count⟩ := by
  obtain ⟨h1, h2, h3, h4, h5⟩ := h
  exact ⟨fun h => (by cases h), fun h => (by cases h), by simp only; omega, by omega, by omega⟩
theorem Bd.more {n : Nat} {s : Ro} {f : Fu} (h : Bd n s f) : Bd (n + 1) s f := ⟨h.left, h.blown, by have := h.count; omega, by have := h.writes; omega, by have := h.outs; omega⟩
end Go.Proofs.Ytchaeidmjoelnaa
