/-
  What the laws share: a copy of what came in, a call where the fuse isn't armed, routes of its own in memory.
-/
import Derived.Test.YtjalmfomeehpgaaCliD
namespace Go.Proofs.Ytjalmfomeehpgaa
open Go.RowKit

theorem IntsI.shape {W : World} {v : Value} {xs : List Int} (h : IntsI W v xs) : ∃ A c, v = .slice A xs.length c := by
  rcases h with ⟨rfl | ⟨a, c, rfl⟩, rfl⟩ | ⟨b, o, c, rfl, _⟩ <;> exact ⟨_, _, rfl⟩
theorem copy_ints {w : World} {v : Value} {xs : List Int} (h : IntsI w v xs) (hn : xs.length ≤ 100000) :
    ∃ A n c W, (Builtin.append_ #[34, 34] 34 #[.slice (some ⟨w.heap.size, 0, none⟩) 0 0, v]).run Try.prog (w.alloc (.cells #[] 3)) = .ok (.slice A n c) W ∧ IntsI W (.slice A n c) xs ∧ Below w.heap.size w W := by
  have ba : Below w.heap.size w (w.alloc (.cells #[] 3)) := (Below.refl _ _).alloc (Nat.le_refl _) _
  obtain ⟨v1, W1, e1, o1, g1⟩ := append_ints (own0 w (Nat.le_refl _)) (h.under ba (Nat.le_refl _)) (Nat.le_of_lt (by simp)) (by simp; omega)
  rw [List.nil_append] at o1
  have b1 := below_grown ba g1 (fun k hk => by simp [Value.ownBlock] at hk; omega) (Nat.le_refl _)
  have hr : IntsI W1 v1 xs := Own.reads (own_base o1)
  obtain ⟨A, c, rfl⟩ := hr.shape
  exact ⟨A, _, c, W1, e1, hr, b1⟩
def F (n : Int) : Fu := ⟨false, 0, false, n⟩
theorem toldF {s : Ro} {n gen slot : Int} (hr : inRange gen slot) : toldC s (F n) gen slot = callE s gen slot ∧ leftC s (F n) gen slot = callS s gen slot ∧ fuseC (F n) gen slot = F (n + 1) := by
  unfold toldC leftC fuseC
  rw [if_pos hr, if_pos hr, if_pos hr]
  exact ⟨rfl, rfl, rfl⟩
theorem toldN {s : Ro} {f : Fu} {gen slot : Int} (hr : ¬ inRange gen slot) : toldC s f gen slot = 1 ∧ leftC s f gen slot = s ∧ fuseC f gen slot = f := by
  unfold toldC leftC fuseC
  rw [if_neg hr, if_neg hr, if_neg hr]
  exact ⟨rfl, rfl, rfl⟩
/-- A route of its own in memory. -/
def Cel (W : World) (k : Nat) (sl gn : Int) : Prop := W.heap[k]? = some (.cells #[.int .i64 sl, .int .i64 gn] 33 (0, 0))
theorem Cel.lt {W : World} {k : Nat} {sl gn : Int} (h : Cel W k sl gn) : k < W.heap.size := lt_of_block h
theorem Cel.c0 {W : World} {k : Nat} {sl gn : Int} (h : Cel W k sl gn) : W.cell? ⟨k, 0, none⟩ = some (.int .i64 sl) := by rw [cell_of_row W k 0 _ _ _ h]; rfl
theorem Cel.c1 {W : World} {k : Nat} {sl gn : Int} (h : Cel W k sl gn) : W.cell? ⟨k, 1, none⟩ = some (.int .i64 gn) := by rw [cell_of_row W k 1 _ _ _ h]; rfl
theorem Cel.fr {W : World} {k i : Nat} {sl gn : Int} (h : Cel W k sl gn) : W.frozen? ⟨k, i, none⟩ = false := by simp [World.frozen?, show W.heap[k]? = _ from h]
theorem Cel.turn {B : Nat} {W W' : World} {k : Nat} {sl gn : Int} (h : Cel W k sl gn) (ht : Turn B W W') : Cel W' k sl gn := ht.kind k _ 33 (by decide) (by decide) (by decide) h
theorem Cel.below {W W' : World} {k : Nat} {sl gn : Int} (h : Cel W k sl gn) (hb : Below W.heap.size W W') : Cel W' k sl gn := (hb.block k h.lt).trans h
theorem Cel.new (W : World) (sl gn : Int) : Cel (W.alloc (.cells #[.int .i64 sl, .int .i64 gn] 33)) W.heap.size sl gn := heap_alloc_new W _
theorem Cel.set {W : World} {k : Nat} {sl gn : Int} (h : Cel W k sl gn) (a b : Int) : Cel ((W.setCell ⟨k, 0, none⟩ (.int .i64 a)).setCell ⟨k, 1, none⟩ (.int .i64 b)) k a b :=
  heap_setCell_same _ _ 1 _ 33 (.int .i64 b) (heap_setCell_same _ _ 0 _ 33 (.int .i64 a) h)
theorem below_alloc (W : World) (o : Obj) : Below W.heap.size W (W.alloc o) := (Below.refl _ _).alloc (Nat.le_refl _) _
/-- What a call leaves: all as it was, or a greater generation's route. -/
theorem left_cases (s : Ro) (f : Fu) (g sl : Int) : ((leftC s f g sl).slot = s.slot ∧ (leftC s f g sl).gen = s.gen ∧ (leftC s f g sl).writes = s.writes) ∨ (inRange g sl ∧ s.gen < g ∧ (leftC s f g sl).slot = sl ∧ (leftC s f g sl).gen = g ∧ (leftC s f g sl).writes = s.writes + 1) := by
  unfold leftC
  by_cases hr : inRange g sl
  · rw [if_pos hr]
    by_cases hb : bears f = true
    · rw [if_pos hb]
      unfold callS
      by_cases h2 : outS s = 2
      · rw [if_pos h2]
        exact .inl ⟨rfl, rfl, rfl⟩
      · rw [if_neg h2]
        by_cases h3 : s.gen < g
        · rw [if_pos h3]
          exact .inr ⟨hr, h3, rfl, rfl, rfl⟩
        · rw [if_neg h3]
          exact .inl ⟨rfl, rfl, rfl⟩
    · rw [if_neg hb]
      exact .inl ⟨rfl, rfl, rfl⟩
  · rw [if_neg hr]
    exact .inl ⟨rfl, rfl, rfl⟩
theorem told_ok {s : Ro} {f : Fu} {g sl : Int} (h : toldC s f g sl = 0) : (leftC s f g sl).slot = sl ∧ (leftC s f g sl).gen = g := by
  unfold toldC at h
  unfold leftC
  by_cases hr : inRange g sl
  · rw [if_pos hr] at h ⊢
    by_cases hb : bears f = true
    · rw [if_pos hb] at h ⊢
      unfold callE at h
      unfold callS
      by_cases h2 : outS s = 2
      · rw [if_pos h2] at h
        exact absurd h (by omega)
      rw [if_neg h2] at h ⊢
      by_cases h1 : outS s = 1
      · rw [if_pos h1] at h
        exact absurd h (by omega)
      rw [if_neg h1] at h
      by_cases h3 : s.gen < g
      · rw [if_pos h3]
        exact ⟨rfl, rfl⟩
      · rw [if_neg h3] at h ⊢
        by_cases h4 : g < s.gen ∨ sl ≠ s.slot
        · rw [if_pos h4] at h
          exact absurd h (by omega)
        · exact ⟨by show s.slot = sl; omega, by show s.gen = g; omega⟩
    · rw [if_neg hb] at h
      exact absurd h (by omega)
  · rw [if_neg hr] at h
    exact absurd h (by omega)
theorem Bd.mono {n m : Nat} {s : Ro} {f : Fu} (h : Bd n s f) (hm : n ≤ m) : Bd m s f := ⟨h.left, h.blown, by have := h.count; omega, by have := h.writes; omega, by have := h.outs; omega⟩
/-- A router with its fuse, and a route of its own beside it. -/
structure Has (w W : World) (b g : Nat) (s : Ro) (f : Fu) (C : Nat) (sl gn : Int) : Prop where
  pk : Pk W w.heap.size b g s f
  low : Below w.heap.size w W
  cel : Cel W C sl gn
theorem Has.keep {w W W' : World} {b g C : Nat} {s : Ro} {f : Fu} {sl gn : Int} (h : Has w W b g s f C sl gn) (hb : Below W.heap.size W W') : Has w W' b g s f C sl gn := ⟨h.pk.under hb, h.low.trans (hb.mono h.low.size), h.cel.below hb⟩
theorem Has.drew {w W : World} {b g C : Nat} {s : Ro} {f : Fu} {sl gn : Int} (h : Has w W b g s f C sl gn) : Has w W.drew b g s f C sl gn := h.keep ⟨rfl, rfl, rfl, Nat.le_refl _, fun _ _ => rfl⟩
theorem Has.turn {w W W' : World} {b g C : Nat} {s s' : Ro} {f f' : Fu} {sl gn : Int} (h : Has w W b g s f C sl gn) (hp : Pk W' w.heap.size b g s' f') (ht : Turn w.heap.size W W') : Has w W' b g s' f' C sl gn := ⟨hp, ht.below h.low, h.cel.turn ht⟩
theorem has_cell {w W : World} {b g C : Nat} {s : Ro} {f : Fu} {sl gn : Int} (h : Has w W b g s f C sl gn) : Calls Try.prog 18 #[.pointer (some ⟨b, 0, none⟩)] W fun e w' => e = .returned (.agg #[.int .i64 s.slot, .int .i64 s.gen]) ∧ Has w w' b g s f C sl gn :=
  (pk_cell w.heap.size b g s f W h.pk).mono fun _ _ ⟨he, hb⟩ => ⟨he, h.keep hb⟩
theorem Has.cells {w W : World} {b g C : Nat} {s : Ro} {f : Fu} {sl gn : Int} (h : Has w W b g s f C sl gn) : W.cell? ⟨C, 0, none⟩ = some (.int .i64 sl) ∧ W.cell? ⟨C, 1, none⟩ = some (.int .i64 gn) := ⟨h.cel.c0, h.cel.c1⟩
end Go.Proofs.Ytjalmfomeehpgaa
