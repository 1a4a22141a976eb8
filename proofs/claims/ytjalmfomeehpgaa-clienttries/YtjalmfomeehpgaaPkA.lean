/-
  Package router in memory: its block, its outcomes (a slice of memory of its own, that may begin anywhere in it); Script.
-/
import Derived.Test.YtjalmfomeehpgaaRouA
import Derived.Deep.Upon
namespace Go.Proofs.Ytjalmfomeehpgaa
open Go.RowKit

/-- A slice that reads as these numbers, in a block of its own; where it begins is left open. -/
def OwnO (W : World) (v : Value) (xs : List Int) : Prop :=
  (v = .slice none 0 0 ∧ xs = []) ∨ ∃ g o c cur, v = .slice (some ⟨g, o, none⟩) xs.length c ∧ xs.length ≤ c ∧ c ≤ maxLen ∧ W.heap[g]? = some (.cells cur 3 (0, 0)) ∧ o + c ≤ cur.size ∧ ∀ k (h : k < xs.length), W.cell? ⟨g, o + k, none⟩ = some (.int .i64 xs[k])
theorem OwnO.reads {W : World} {v : Value} {xs : List Int} (h : OwnO W v xs) : IntsI W v xs := by
  rcases h with ⟨hv, hn⟩ | ⟨g, o, c, cur, hv, h1, h2, h3, h4, h5⟩
  · exact .inl ⟨.inl hv, hn⟩
  · cases xs with
    | nil => exact .inl ⟨.inr ⟨_, _, hv⟩, rfl⟩
    | cons x xs => exact .inr ⟨g, o, c, hv, by simp, h1, lt_of_block h3, h5⟩
theorem OwnO.lt {W : World} {v : Value} {xs : List Int} (h : OwnO W v xs) : ∀ k, v.ownBlock = some k → k < W.heap.size := by
  intro k hk
  rcases h with ⟨rfl, _⟩ | ⟨g, o, c, cur, rfl, _, _, h3, _⟩
  · cases hk
  · obtain rfl : g = k := by simpa [Value.ownBlock] using hk
    exact lt_of_block h3
theorem Own.lt {W : World} {v : Value} {xs : List Int} (h : Own W v xs) : ∀ k, v.ownBlock = some k → k < W.heap.size := fun k hk => (own_ge h k hk).2
theorem OwnO.kind {W : World} {v : Value} {xs : List Int} (h : OwnO W v xs) : ∀ k, v.ownBlock = some k → ∃ cur, W.heap[k]? = some (.cells cur 3 (0, 0)) := by
  intro k hk
  rcases h with ⟨rfl, _⟩ | ⟨g, o, c, cur, rfl, _, _, h3, _⟩
  · cases hk
  · obtain rfl : g = k := by simpa [Value.ownBlock] using hk
    exact ⟨cur, h3⟩
theorem Own.kind {W : World} {v : Value} {xs : List Int} (h : Own W v xs) : ∀ k, v.ownBlock = some k → ∃ cur, W.heap[k]? = some (.cells cur 3 (0, 0)) := by
  intro k hk
  rcases h.2 with ⟨rfl, _⟩ | ⟨g, cap, cur, rfl, _, h3, _⟩
  · cases hk
  · obtain rfl : g = k := by simpa [Value.ownBlock] using hk
    exact ⟨cur, h3⟩
theorem OwnO.keep {W W' : World} {v : Value} {xs : List Int} (h : OwnO W v xs) (hk : ∀ k, v.ownBlock = some k → W'.heap[k]? = W.heap[k]?) : OwnO W' v xs := by
  rcases h with h | ⟨g, o, c, cur, rfl, h1, h2, h3, h4, h5⟩
  · exact .inl h
  · have e := hk g rfl
    exact .inr ⟨g, o, c, cur, rfl, h1, h2, e.trans h3, h4, fun k hk => (World.cell?_of_block (a := ⟨g, o + k, none⟩) e).trans (h5 k hk)⟩
theorem Own.keep {W W' : World} {v : Value} {xs : List Int} (h : Own W v xs) (hk : ∀ k, v.ownBlock = some k → W'.heap[k]? = W.heap[k]?) : Own W' v xs := by
  refine ⟨h.1, ?_⟩
  rcases h.2 with h | ⟨g, cap, cur, rfl, h2, h3, h4⟩
  · exact .inl h
  · exact .inr ⟨g, cap, cur, rfl, h2, (hk g rfl).trans h3, h4⟩
theorem OwnO.of_row {W : World} {base : Nat} {v : Value} {n : Nat} {xs : List Int} (h : W.ownsRow base 3 1 v n (ints xs)) (hn : n = xs.length) : OwnO W v xs := by
  subst hn
  have hr := Own.reads (own_base h)
  rcases h.2 with ⟨hv, hn⟩ | ⟨g, cap, cur, hv, _, hg, hn, hc, hs, ht⟩
  · exact .inl ⟨hv, List.length_eq_zero_iff.1 hn⟩
  · refine .inr ⟨g, 0, cap, cur, hv, hn, hc, hg, by omega, ?_⟩
    intro k hk
    rcases hr with ⟨_, h0⟩ | ⟨b, o, c, he, _, _, _, h4⟩
    · subst h0; simp at hk
    · rw [hv] at he
      injection he with he1 he2 he3
      injection he1 with he1
      injection he1 with e1 e2 e3
      subst e1 e2
      exact h4 k hk
/-- A row stays one, whatever is written into it. -/
theorem heap_setCells (g : Nat) : ∀ (vs : List Value) (o : Nat) (w : World) (cur : Array Value), w.heap[g]? = some (.cells cur 3 (0, 0)) → ∃ cur', (w.setCells g o vs).heap[g]? = some (.cells cur' 3 (0, 0)) ∧ cur'.size = cur.size
  | [], _, _, cur, h => ⟨cur, h, rfl⟩
  | v :: vs, o, w, cur, h => by
    obtain ⟨c1, h1, e1⟩ := heap_setCells g vs (o + 1) (w.setCell ⟨g, o, none⟩ v) _ (heap_setCell_same w g o cur 3 v h)
    exact ⟨c1, h1, by rw [e1]; simp⟩
theorem tape_setCells (g : Nat) : ∀ (vs : List Value) (o : Nat) (w : World), (w.setCells g o vs).tape = w.tape
  | [], _, _ => rfl
  | v :: vs, o, w => (tape_setCells g vs (o + 1) (w.setCell ⟨g, o, none⟩ v)).trans rfl
theorem size_setCells (g : Nat) : ∀ (vs : List Value) (o : Nat) (w : World), (w.setCells g o vs).heap.size = w.heap.size
  | [], _, _ => rfl
  | v :: vs, o, w => (size_setCells g vs (o + 1) (w.setCell ⟨g, o, none⟩ v)).trans (by simp [World.setCell])
theorem block_setCells (g k : Nat) (hk : k ≠ g) : ∀ (vs : List Value) (o : Nat) (w : World), (w.setCells g o vs).heap[k]? = w.heap[k]?
  | [], _, _ => rfl
  | v :: vs, o, w => (block_setCells g k hk vs (o + 1) (w.setCell ⟨g, o, none⟩ v)).trans (Below.heap_setCell w ⟨g, o, none⟩ v k hk)
/-- More numbers behind those of such a slice: in the room that there is, or in new memory. -/
theorem append_owno {W : World} {bv v : Value} {xs0 xs : List Int} (hown : OwnO W bv xs0) (hv : IntsI W v xs) (hn : xs0.length + xs.length ≤ 100000000) :
    ∃ v' W', (Builtin.append_ #[34, 34] 34 #[bv, v]).run Try.prog W = .ok v' W' ∧ OwnO W' v' (xs0 ++ xs) ∧ New W bv v' ∧ W.grownBy W' bv.ownBlock := by
  have hsrc : Src Try.prog ie3.size 34 v xs.length (ints xs) W := by
    rcases hv with ⟨rfl | ⟨a, c, rfl⟩, rfl⟩ | ⟨b, o, c, rfl, h1, h2, h3, h4⟩
    · exact Src.ofNil W Try.underlying34 0
    · exact Src.ofSlice W Try.underlying34 a 0 c [] (by simp) (fun j u h => by cases h) (fun u h => by cases h)
    · exact Src.ofSlice W Try.underlying34 ⟨b, o, none⟩ xs.length c (ints xs) (by rw [ints_len, ie3_size]; omega) (fun j u hu => by
        have hj : j < xs.length := by have := (List.getElem?_eq_some_iff.1 hu).1; rw [ints_len] at this; exact this
        rw [addr_add, h4 j hj, ← hu]
        simp [ints, hj]) (ints_one xs)
  have grows : ∀ (ad : Option Addr) (c : Nat), bv = .slice ad xs0.length c → c < xs0.length + xs.length → (Builtin.firstCells ie3.size xs0.length (.slice ad xs0.length c)).run Try.prog W.drew = .ok (ints xs0).toArray W.drew →
      ∃ v' W', (Builtin.append_ #[34, 34] 34 #[bv, v]).run Try.prog W = .ok v' W' ∧ OwnO W' v' (xs0 ++ xs) ∧ New W bv v' ∧ W.grownBy W' bv.ownBlock := by
    intro ad c hbv hc hold
    have h63 : xs0.length + xs.length ≤ maxLen := by unfold maxLen; omega
    have hr := run_append_grow_src W 34 34 34 3 ie3 (.int .i64 0) Try.underlying34 ie3_is ie3_zero ad xs0.length c (ints xs0) hold v xs.length (ints xs) hsrc hc (by omega) (by rw [ie3_bytes]; exact growslice_fits hc (by omega))
    have hge := grownCap_ge W (xs0.length + xs.length) c 3
    have hcm : grownCap W (xs0.length + xs.length) c 3 ≤ maxLen := grownCap_le_maxLen W _ c 3 h63
    subst hbv
    refine ⟨_, _, hr, ?_, ?_, ⟨rfl, rfl, rfl, by simp, fun k hk _ => heap_alloc_old W.drew _ hk⟩⟩
    · refine OwnO.of_row (base := 0) (n := xs0.length + xs.length) ⟨by rw [ints_len]; simp, .inr ⟨W.heap.size, _, _, rfl, Nat.zero_le _, heap_alloc_new W.drew _, hge, hcm, ?_, ?_⟩⟩ (by simp)
      · simp only [Array.size_append, List.size_toArray, size_zeroCells, ints_len, List.length_append]
        show _ + _ * 1 = _
        omega
      · rw [Array.toList_append, ints_append]
        exact List.take_left' (by simp [ints_len])
    · intro k hk
      obtain rfl : W.heap.size = k := by simpa [Value.ownBlock] using hk
      exact .inr (Nat.le_refl _)
  rcases hown with ⟨rfl, rfl⟩ | ⟨g, o, c, cur, rfl, h1, h2, h3, h4, h5⟩
  · by_cases hx : xs = []
    · subst hx
      have hr := run_append_nothing W 34 34 34 3 ie3 Try.underlying34 ie3_is none 0 0 (Nat.le_refl _) v (by simpa [ints] using hsrc)
      exact ⟨_, _, hr, .inl ⟨rfl, rfl⟩, fun _ h => .inl h, World.grownBy.refl W _⟩
    · refine grows none 0 rfl (by have := List.length_pos_iff.2 hx; simp; omega) ?_
      exact run_firstCells_none W.drew ie3.size 0 0 0
  · by_cases hr : xs0.length + xs.length ≤ c
    · have hcs : ∀ j, j < c → (W.cell? ⟨g, o + j, none⟩).isSome = true := fun j hj => by
        rw [cell_of_row W g _ cur 3 (0, 0) h3]
        simp; omega
      have hfz : ∀ i, W.frozen? ⟨g, i, none⟩ = false := fun i => by simp [World.frozen?, h3]
      have run := run_append_room_src W 34 34 34 3 ie3 Try.underlying34 ie3_is g o xs0.length c v xs.length (ints xs) hsrc hr (fun j hj => by rw [ints_len] at hj; rw [ie3_size, Nat.mul_one, Nat.add_assoc]; exact hcs _ (by omega)) (fun j _ => hfz _)
      rw [ie3_size, Nat.mul_one] at run
      obtain ⟨cur', hc', hs'⟩ := heap_setCells g (ints xs) (o + xs0.length) W cur h3
      refine ⟨_, _, run, .inr ⟨g, o, c, cur', by rw [List.length_append], by rw [List.length_append]; exact hr, h2, hc', by omega, ?_⟩, fun _ h => .inl h, ⟨World.os_setCells .., tape_setCells .., World.output_setCells .., by rw [size_setCells]; exact Nat.le_refl _, fun k _ hk => block_setCells g k (fun e => hk (by simp [Value.ownBlock, e])) _ _ _⟩⟩
      intro k hk
      by_cases hk0 : k < xs0.length
      · rw [World.cell?_setCells_out g _ _ _ _ (fun _ _ => Or.inl (by show o + k < o + xs0.length; omega)), h5 k hk0, List.getElem_append_left hk0]
      · have hj : k - xs0.length < (ints xs).length := by rw [ints_len]; rw [List.length_append] at hk; omega
        have := World.cell?_setCells_in g (ints xs) (o + xs0.length) W (fun j hj => by rw [ints_len] at hj; rw [Nat.add_assoc]; exact hcs _ (by omega)) (k - xs0.length) hj
        rw [show o + xs0.length + (k - xs0.length) = o + k by omega] at this
        rw [this, List.getElem_append_right (by omega)]
        simp [ints]
    · refine grows (some ⟨g, o, none⟩) c rfl (by omega) ?_
      refine run_firstCells_some W.drew ie3.size xs0.length ⟨g, o, none⟩ xs0.length c (ints xs0) (by rw [ints_len, ie3_size]; omega) (fun j u hu => ?_)
      have hj : j < xs0.length := by have := (List.getElem?_eq_some_iff.1 hu).1; rw [ints_len] at this; exact this
      rw [addr_add]
      show W.cell? _ = _
      rw [h5 j hj, ← hu]
      simp [ints, hj]
/-- A router in memory: block b, its fuse in block g, its outcomes where v says. -/
structure RoP (W : World) (b g : Nat) (v : Value) (s : Ro) : Prop where
  row : W.heap[b]? = some (.cells #[.int .i64 s.slot, .int .i64 s.gen, .int .i64 s.writes, v, .pointer (some ⟨g, 0, none⟩)] 59 (0, 0))
  own : OwnO W v s.outs
/-- Nothing but the blocks b and g and the outcomes' own turned, of those that were. -/
structure ButO (b g : Nat) (v : Value) (w w' : World) : Prop where
  os : w'.os = w.os
  tape : w'.tape = w.tape
  output : w'.output = w.output
  size : w.heap.size ≤ w'.heap.size
  block : ∀ k, k < w.heap.size → k ≠ b → k ≠ g → v.ownBlock ≠ some k → w'.heap[k]? = w.heap[k]?
theorem ButO.refl (b g : Nat) (v : Value) (w : World) : ButO b g v w w := ⟨rfl, rfl, rfl, Nat.le_refl _, fun _ _ _ _ _ => rfl⟩
theorem ButO.trans {b g : Nat} {v v' : Value} {w w' w'' : World} (h : ButO b g v w w') (k : ButO b g v' w' w'') (hn : New w v v') : ButO b g v w w'' :=
  ⟨k.os.trans h.os, k.tape.trans h.tape, k.output.trans h.output, Nat.le_trans h.size k.size, fun j hj h1 h2 h3 => (k.block j (Nat.lt_of_lt_of_le hj h.size) h1 h2 (fun e => (hn j e).elim h3 (fun h => by omega))).trans (h.block j hj h1 h2 h3)⟩
theorem ButO.of_but {b g : Nat} {v : Value} {w w' : World} (h : But b g w w') : ButO b g v w w' := ⟨h.os, h.tape, h.output, h.size, fun k hk h1 h2 _ => h.block k hk h1 h2⟩
theorem ButO.of_below {b g : Nat} {v : Value} {w w' : World} (h : Below w.heap.size w w') : ButO b g v w w' := .of_but (.of_below h)
theorem ButO.set {b g : Nat} {v : Value} {w w' : World} (h : ButO b g v w w') (i : Nat) (u : Value) : ButO b g v w (w'.setCell ⟨b, i, none⟩ u) :=
  ⟨h.os, h.tape, h.output, by simpa [World.setCell] using h.size, fun k hk h1 h2 h3 => (Below.heap_setCell w' ⟨b, i, none⟩ u k h1).trans (h.block k hk h1 h2 h3)⟩
theorem ButO.below {b g B : Nat} {v : Value} {a w w' : World} (h : ButO b g v w w') (hb : Below B a w) (h1 : B ≤ b) (h2 : B ≤ g) (h3 : ∀ k, v.ownBlock = some k → B ≤ k) (hB : B ≤ w.heap.size) : Below B a w' :=
  ⟨h.os.trans hb.os, h.tape.trans hb.tape, h.output.trans hb.output, Nat.le_trans hb.size h.size, fun k hk => (h.block k (by omega) (by omega) (by omega) (fun e => by have := h3 k e; omega)).trans (hb.block k hk)⟩
theorem ButO.wide {b g : Nat} {v : Value} {w w' : World} (h : ButO b b v w w') : ButO b g v w w' := ⟨h.os, h.tape, h.output, h.size, fun k hk h1 _ h3 => h.block k hk h1 h1 h3⟩
theorem New.ge {w : World} {v v' : Value} {B : Nat} (h : New w v v') (h3 : ∀ k, v.ownBlock = some k → B ≤ k) (hB : B ≤ w.heap.size) : ∀ k, v'.ownBlock = some k → B ≤ k := fun k hk => (h k hk).elim (h3 k) (fun h => by omega)
set_option maxRecDepth 100000 in
set_option maxHeartbeats 4000000 in
theorem pscript_any (b g : Nat) (s : Ro) (l : Value) (xs : List Int) (v : Value) (w : World) (h : RoP w b g v s) (hl : IntsI w l xs) (hn : s.outs.length + xs.length ≤ 100000000) : Calls Try.prog 12 #[.pointer (some ⟨b, 0, none⟩), l] w fun e w' => e = .returned (.tuple #[]) ∧ (∃ v', RoP w' b g v' { s with outs := s.outs ++ xs } ∧ New w v v') ∧ ButO b b v w w' := by
  obtain ⟨hrow, hown⟩ := h
  have hblt := lt_of_block hrow
  have hnb : v.ownBlock ≠ some b := fun e => by
    obtain ⟨cur, hc⟩ := hown.kind b e
    rw [hrow] at hc
    simp at hc
  obtain ⟨v2, W2, e2, o2, n2, g2⟩ := append_owno hown hl hn
  have hrow2 : W2.heap[b]? = some (.cells #[.int .i64 s.slot, .int .i64 s.gen, .int .i64 s.writes, v, .pointer (some ⟨g, 0, none⟩)] 59 (0, 0)) := (g2.block b hblt (Ne.symm hnb)).trans hrow
  have c2 : w.cell? ⟨b, 3, none⟩ = some v := by rw [cell_of_row w b 3 _ _ _ hrow]; rfl
  have d2 : W2.cell? ⟨b, 3, none⟩ = some v := by rw [cell_of_row W2 b 3 _ _ _ hrow2]; rfl
  have f2 : W2.frozen? ⟨b, 3, none⟩ = false := by simp [World.frozen?, hrow2]
  have hb2 : ButO b b v w W2 := ⟨g2.os, g2.tape, g2.output, g2.size, fun k hk _ _ h3 => g2.block k hk (Ne.symm h3)⟩
  have HF : Hid ((∃ v', RoP (W2.setCell ⟨b, 3, none⟩ v2) b g v' { s with outs := s.outs ++ xs } ∧ New w v v') ∧ ButO b b v w (W2.setCell ⟨b, 3, none⟩ v2)) := Lib.hid ⟨⟨v2, ⟨heap_setCell_same _ _ 3 _ 59 v2 hrow2, o2.keep (fun k hk => Below.heap_setCell _ _ _ _ (by
      show k ≠ b
      intro e
      subst e
      obtain ⟨cur, hc⟩ := o2.kind k hk
      rw [hrow2] at hc
      simp at hc))⟩, n2⟩, hb2.set 3 v2⟩
  have hv : ∃ A n c, v = .slice A n c := by
    rcases hown with ⟨rfl, _⟩ | ⟨_, _, _, _, rfl, _⟩ <;> exact ⟨_, _, _, rfl⟩
  have hv2 : ∃ A n c, v2 = .slice A n c := by
    rcases o2 with ⟨rfl, _⟩ | ⟨_, _, _, _, rfl, _⟩ <;> exact ⟨_, _, _, rfl⟩
  obtain ⟨A, n, c, rfl⟩ := hv
  obtain ⟨A2, n2', c2', rfl⟩ := hv2
  clear hl hn hrow hown o2 g2 hrow2 n2 hb2 hnb hblt
  have E2 := Lib.hid e2
  clear e2
  go_enter Try.func12, Try.ntmps12
  go_wp2_with (first | (at_builtin; refine wpList_append_is rfl (.tmp 8) (.tmp 9) 34 rfl rfl rfl E2.out ?_))
  go_end0
  exact ⟨rfl, HF.out⟩
end Go.Proofs.Ytjalmfomeehpgaa
