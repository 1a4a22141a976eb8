/-
  The document's own router in memory: its block, its outcomes; Script.
-/
import Derived.Test.YtjalmfomeehpgaaFuse
import Derived.Test.YtjalmfomeehpgaaRouL
import Derived.Deep.AppendLies
import Derived.Laws.AppendOwnNone
import Derived.Laws.OwnMore
import Derived.IntWalk
import Derived.Deep.Cut
import Derived.Great.BuildSlice
namespace Go.Proofs.Ytjalmfomeehpgaa
open Go.RowKit

def ints (xs : List Int) : List Value := xs.map (Value.int .i64)
theorem ints_len (xs : List Int) : (ints xs).length = xs.length := List.length_map _
theorem ints_at (xs : List Int) (k : Nat) (h : k < xs.length) : (ints xs)[k]? = some (.int .i64 xs[k]) := by simp [ints, h]
theorem ints_append (xs ys : List Int) : ints (xs ++ ys) = ints xs ++ ints ys := List.map_append ..
theorem ints_one (xs : List Int) : ∀ u ∈ ints xs, u.oneCell' = true := by
  intro u hu
  obtain ⟨x, _, rfl⟩ := List.mem_map.1 hu
  rfl
/-- What a router is. -/
structure Ro where
  slot : Int
  gen : Int
  outs : List Int
  writes : Int
/-- A slice that reads as these numbers, in memory of its own: its block is known whole. -/
def Own (W : World) (v : Value) (xs : List Int) : Prop := W.ownsRow 0 3 1 v xs.length (ints xs)
theorem IntsI.under {W W' : World} {v : Value} {xs : List Int} {B : Nat} (h : IntsI W v xs) (hb : Below B W W') (hB : W.heap.size ≤ B) : IntsI W' v xs := by
  rcases h with h | ⟨b, o, c, h1, h2, h3, h4, h5⟩
  · exact .inl h
  · exact .inr ⟨b, o, c, h1, h2, h3, Nat.lt_of_lt_of_le h4 hb.size, fun k h => (hb.cell (p := ⟨b, o + k, none⟩) (show b < B by omega)).trans (h5 k h)⟩
theorem Own.reads {W : World} {v : Value} {xs : List Int} (h : Own W v xs) : IntsI W v xs := by
  rcases h.2 with ⟨hv, hn⟩ | ⟨g, cap, cur, hv, _, hg, hn, hc, hs, ht⟩
  · exact .inl ⟨.inl hv, List.length_eq_zero_iff.1 hn⟩
  · cases xs with
    | nil => exact .inl ⟨.inr ⟨_, _, hv⟩, rfl⟩
    | cons x xs =>
      refine .inr ⟨g, 0, cap, hv, by simp, hn, lt_of_block hg, fun k hk => ?_⟩
      rw [cell_of_row W g _ cur 3 (0, 0) hg, Nat.zero_add]
      have h1 := ints_at (x :: xs) k hk
      rw [← ht, List.getElem?_take_of_lt (by omega)] at h1
      simpa using h1
theorem some3 : (Try.prog.info? 3).isSome = true := by kernel_rfl
noncomputable def ie3 : TypeInfo := (Try.prog.info? 3).get some3
theorem ie3_is : Try.prog.info? 3 = some ie3 := (Option.some_get some3).symm
theorem ie3_size : ie3.size = 1 := by kernel_rfl
theorem ie3_bytes : ie3.bytes = 8 := by kernel_rfl
theorem ie3_zero : ie3.zero = some (.int .i64 0) := by kernel_rfl
theorem append_ints {W : World} {base : Nat} {bv v : Value} {xs0 xs : List Int} (hown : W.ownsRow base 3 1 bv xs0.length (ints xs0)) (hv : IntsI W v xs) (hb : base ≤ W.heap.size) (hn : xs0.length + xs.length ≤ 100000000) :
    ∃ v' W', (Builtin.append_ #[34, 34] 34 #[bv, v]).run Try.prog W = .ok v' W' ∧ W'.ownsRow base 3 1 v' (xs0 ++ xs).length (ints (xs0 ++ xs)) ∧ W.grownBy W' bv.ownBlock := by
  rcases hv with ⟨rfl | ⟨a, c, rfl⟩, rfl⟩ | ⟨b, o, c, rfl, h1, h2, h3, h4⟩
  · exact ⟨bv, W, run_append_owned_none (P := Try.prog) W base 34 34 3 ie3 1 Try.underlying34 ie3_is bv xs0.length (ints xs0) hown, by simpa using hown, World.grownBy.refl W _⟩
  · obtain ⟨v', W', hr, ho, hg, _, _⟩ := run_append_own_at (P := Try.prog) W base 34 34 3 ie3 _ 1 8 Try.underlying34 ie3_is ie3_zero ie3_size ie3_bytes rfl (by decide) bv xs0.length (ints xs0) hown a 0 c [] rfl (fun j u h => by cases h) (fun u h => by cases h) (by unfold maxLen; omega) (by simp at hn ⊢; omega) hb
    exact ⟨v', W', hr, by simpa using ho, hg⟩
  · obtain ⟨v', W', hr, ho, hg, _, _⟩ := run_append_own_at (P := Try.prog) W base 34 34 3 ie3 _ 1 8 Try.underlying34 ie3_is ie3_zero ie3_size ie3_bytes rfl (by decide) bv xs0.length (ints xs0) hown ⟨b, o, none⟩ xs.length c (ints xs) (by rw [ints_len]; omega) (fun j u hu => by
      have hj : j < xs.length := by have := (List.getElem?_eq_some_iff.1 hu).1; rw [ints_len] at this; exact this
      rw [show (⟨b, o, none⟩ : Addr).add j = ⟨b, o + j, none⟩ by unfold Addr.add; split <;> simp_all, h4 j hj, ← hu]
      simp [ints, hj]) (ints_one xs) (by unfold maxLen; omega) (by omega) hb
    exact ⟨v', W', hr, by rw [List.length_append, ints_append]; exact ho, hg⟩
theorem build0 (W : World) : (Instr.buildSlice 34 0 #[]).run Try.prog W = .ok (.slice (some ⟨W.heap.size, 0, none⟩) 0 0) (W.alloc (.cells #[] 3)) := by
  simp [Instr.buildSlice, run_underlying Try.underlying34, sizeOf, typeInfo, ie3_is, newRow, Instr.fill]
  rw [show Array.range 0 = #[] from by kernel_rfl]
  simp
theorem own0 (W : World) {base : Nat} (hb : base ≤ W.heap.size) : (W.alloc (.cells #[] 3)).ownsRow base 3 1 (.slice (some ⟨W.heap.size, 0, none⟩) 0 0) ([] : List Int).length (ints []) :=
  ⟨rfl, .inr ⟨W.heap.size, 0, #[], rfl, hb, heap_alloc_new W _, Nat.le_refl _, by unfold maxLen; omega, rfl, rfl⟩⟩
theorem own_base {W : World} {base e : Nat} {v : Value} {n : Nat} {xs : List Value} (h : W.ownsRow base e 1 v n xs) : W.ownsRow 0 e 1 v n xs := by
  refine ⟨h.1, ?_⟩
  rcases h.2 with h | ⟨g, cap, cur, h1, _, h2⟩
  · exact .inl h
  · exact .inr ⟨g, cap, cur, h1, Nat.zero_le _, h2⟩
theorem own_ge {W : World} {base e : Nat} {v : Value} {n : Nat} {xs : List Value} (h : W.ownsRow base e 1 v n xs) : ∀ k, v.ownBlock = some k → base ≤ k ∧ k < W.heap.size := by
  intro k hk
  rcases h.2 with ⟨rfl, _⟩ | ⟨g, cap, cur, rfl, h1, h2, _⟩
  · cases hk
  · obtain rfl : g = k := by simpa [Value.ownBlock] using hk
    exact ⟨h1, lt_of_block h2⟩
theorem below_grown {B : Nat} {a w w' : World} {row : Option Nat} (h : Below B a w) (hg : w.grownBy w' row) (hr : ∀ k, row = some k → B ≤ k) (hB : B ≤ a.heap.size) : Below B a w' :=
  ⟨hg.os.trans h.os, hg.tape.trans h.tape, hg.output.trans h.output, Nat.le_trans h.size hg.size, fun k hk => by
    rw [hg.block k (by have := h.size; omega) (fun e => by have := hr k e.symm; omega)]
    exact h.block k hk⟩
/-- A router in memory: block b, its fuse in block g. -/
structure RoM (W : World) (b g : Nat) (v : Value) (s : Ro) : Prop where
  row : W.heap[b]? = some (.cells #[.int .i64 s.slot, .int .i64 s.gen, v, .int .i64 s.writes, .pointer (some ⟨g, 0, none⟩)] 36 (0, 0))
  own : Own W v s.outs
/-- The outcomes lie where they lay, or in new memory. -/
def New (w : World) (v v' : Value) : Prop := ∀ k, v'.ownBlock = some k → v.ownBlock = some k ∨ w.heap.size ≤ k
/-- Nothing but the blocks b and g turned, of those that were. -/
structure But (b g : Nat) (w w' : World) : Prop where
  os : w'.os = w.os
  tape : w'.tape = w.tape
  output : w'.output = w.output
  size : w.heap.size ≤ w'.heap.size
  block : ∀ k, k < w.heap.size → k ≠ b → k ≠ g → w'.heap[k]? = w.heap[k]?
theorem But.refl (b g : Nat) (w : World) : But b g w w := ⟨rfl, rfl, rfl, Nat.le_refl _, fun _ _ _ _ => rfl⟩
theorem But.trans {b g : Nat} {w w' w'' : World} (h : But b g w w') (k : But b g w' w'') : But b g w w'' :=
  ⟨k.os.trans h.os, k.tape.trans h.tape, k.output.trans h.output, Nat.le_trans h.size k.size, fun j hj h1 h2 => (k.block j (Nat.lt_of_lt_of_le hj h.size) h1 h2).trans (h.block j hj h1 h2)⟩
theorem But.of_below {b g : Nat} {w w' : World} (h : Below w.heap.size w w') : But b g w w' := ⟨h.os, h.tape, h.output, h.size, fun k hk _ _ => h.block k hk⟩
theorem But.set {b g : Nat} {w w' : World} (h : But b g w w') (i : Nat) (u : Value) : But b g w (w'.setCell ⟨b, i, none⟩ u) :=
  ⟨h.os, h.tape, h.output, by simpa [World.setCell] using h.size, fun k hk h1 h2 => (Below.heap_setCell w' ⟨b, i, none⟩ u k h1).trans (h.block k hk h1 h2)⟩
theorem But.only {b g : Nat} {w w' : World} (h : Only g w w') : But b g w w' := ⟨h.os, h.tape, h.output, by rw [h.size]; exact Nat.le_refl _, fun k _ _ h2 => h.block k h2⟩
theorem But.below {b g B : Nat} {a w w' : World} (h : But b g w w') (hb : Below B a w) (h1 : B ≤ b) (h2 : B ≤ g) (hB : B ≤ w.heap.size) : Below B a w' :=
  ⟨h.os.trans hb.os, h.tape.trans hb.tape, h.output.trans hb.output, Nat.le_trans hb.size h.size, fun k hk => (h.block k (by omega) (by omega) (by omega)).trans (hb.block k hk)⟩
theorem Own.block {W W' : World} {v : Value} {xs : List Int} (h : Own W v xs) (hk : ∀ k, k < W.heap.size → (∃ cur, W.heap[k]? = some (.cells cur 3 (0, 0))) → W'.heap[k]? = W.heap[k]?) : Own W' v xs := by
  refine ⟨h.1, ?_⟩
  rcases h.2 with h | ⟨g, cap, cur, h1, h2, h3, h4⟩
  · exact .inl h
  · exact .inr ⟨g, cap, cur, h1, h2, (hk g (lt_of_block h3) ⟨cur, h3⟩).trans h3, h4⟩
theorem wpList_append_is {P : Program} {ops : Array Oper} {rest : List Oper} {o : Oper} {a : Act} {w w' : World} {Q : Exit → Act → World → Prop} (hgd : o.guard = none) (s x : Operand) (t : TypeId) (ho : o.op = .call { callee := .builtin .append, args := #[s, x], argTypes := #[t, t] })
    {bv v v' : Value} (hs : a.eval s = bv) (hx : a.eval x = v) (hr : (Builtin.append_ #[t, t] o.type #[bv, v]).run P w = .ok v' w') (h : wpList P ops Q rest (a.put o.dst v') w') : wpList P ops Q (o :: rest) a w :=
  wpList_plain hgd fun _ hK => by
    unfold Oper.wp execOp
    simp only [ho, resolve, invoke, builtin, Sem.run_bind, Sem.run_pure, Result.andThen_ok, List.map_toArray, List.map_cons, List.map_nil, hs, hx, hr]
    exact hK _ _ h
theorem name_w {P : Program} {c : Code} {Q : Exit → Act → World → Prop} {a : Act} {W : World} (R : World → Prop) (hR : R W) (h : ∀ W', R W' → Code.wp P c Q a W') : Code.wp P c Q a W := h W hR
set_option maxRecDepth 100000 in
set_option maxHeartbeats 4000000 in
theorem mscript_any (b g : Nat) (s : Ro) (l : Value) (xs : List Int) (v : Value) (w : World) (h : RoM w b g v s) (hl : IntsI w l xs) (hn : s.outs.length + xs.length ≤ 100000000) : Calls Try.prog 13 #[.pointer (some ⟨b, 0, none⟩), l] w fun e w' => e = .returned (.tuple #[]) ∧ (∃ v', RoM w' b g v' { s with outs := s.outs ++ xs } ∧ New w v v') ∧ But b b w w' := by
  obtain ⟨hrow, hown⟩ := h
  have hblt := lt_of_block hrow
  have bs0 := build0
  have ba : Below w.heap.size w (w.alloc (.cells #[] 3)) := (Below.refl _ _).alloc (Nat.le_refl _) _
  obtain ⟨v1, W1, e1, o1, g1⟩ := append_ints (own0 w (Nat.le_refl _)) (hown.reads.under ba (Nat.le_refl _)) (Nat.le_of_lt (by simp)) (by simp; omega)
  rw [List.nil_append] at o1
  have b1 := below_grown ba g1 (fun k hk => by simp [Value.ownBlock] at hk; omega) (Nat.le_refl _)
  obtain ⟨v2, W2, e2, o2, g2⟩ := append_ints o1 (hl.under b1 (Nat.le_refl _)) (b1.size) hn
  have b2 := below_grown b1 g2 (fun k hk => (own_ge o1 k hk).1) (Nat.le_refl _)
  have hrow2 : W2.heap[b]? = some (.cells #[.int .i64 s.slot, .int .i64 s.gen, v, .int .i64 s.writes, .pointer (some ⟨g, 0, none⟩)] 36 (0, 0)) := (b2.block b hblt).trans hrow
  have c2 : (w.alloc (.cells #[] 3)).cell? ⟨b, 2, none⟩ = some v := (ba.cell (p := ⟨b, 2, none⟩) hblt).trans (by rw [cell_of_row w b 2 _ _ _ hrow]; rfl)
  have d2 : W2.cell? ⟨b, 2, none⟩ = some v := by rw [cell_of_row W2 b 2 _ _ _ hrow2]; rfl
  have f2 : W2.frozen? ⟨b, 2, none⟩ = false := by simp [World.frozen?, hrow2]
  have HF : Hid ((∃ v', RoM (W2.setCell ⟨b, 2, none⟩ v2) b g v' { s with outs := s.outs ++ xs } ∧ New w v v') ∧ But b b w (W2.setCell ⟨b, 2, none⟩ v2)) := Lib.hid ⟨⟨v2, ⟨heap_setCell_same _ _ 2 _ 36 v2 hrow2, Own.block (own_base o2) (fun k _ ⟨cur, hk⟩ => Below.heap_setCell _ _ _ _ (by
      show k ≠ b
      intro e
      subst e
      rw [hk] at hrow2
      simp at hrow2))⟩, fun k hk => .inr (own_ge o2 k hk).1⟩, (But.of_below b2).set 2 v2⟩
  have hv : ∃ A n c, v = .slice A n c := by
    rcases hown.2 with ⟨rfl, _⟩ | ⟨_, _, _, rfl, _⟩ <;> exact ⟨_, _, _, rfl⟩
  have hv2 : ∃ A n c, v2 = .slice A n c := by
    rcases o2.2 with ⟨rfl, _⟩ | ⟨_, _, _, rfl, _⟩ <;> exact ⟨_, _, _, rfl⟩
  obtain ⟨A, n, c, rfl⟩ := hv
  obtain ⟨A2, n2, c2', rfl⟩ := hv2
  clear hl hn hrow hown ba o1 g1 b1 o2 g2 b2 hrow2
  have E1 := Lib.hid e1
  have E2 := Lib.hid e2
  clear e1 e2
  go_enter Try.func13, Try.ntmps13
  go_wp2_with (first | (at_builtin; refine wpList_append_is rfl (.tmp 5) (.tmp 9) 34 rfl rfl rfl E1.out ?_) | (at_builtin; refine wpList_append_is rfl (.tmp 10) (.tmp 11) 34 rfl rfl rfl E2.out ?_))
  go_end0
  exact ⟨rfl, HF.out⟩
end Go.Proofs.Ytjalmfomeehpgaa
