/-
  What layer 11's laws share: a copy of what came in, a call where the fuse isn't armed, a call where it bears nothing.
-/
import Derived.Test.YtdhonbgladenpaaLift
namespace Go.Proofs.Ytdhonbgladenpaa
open Go.RowKit

theorem copy_ints {w : World} {v : Value} {xs : List Int} (h : IntsI w v xs) (hn : xs.length ≤ 100000) :
    ∃ A n c W, (Builtin.append_ #[35, 35] 35 #[.slice (some ⟨w.heap.size, 0, none⟩) 0 0, v]).run Try.prog (w.alloc (.cells #[] 3)) = .ok (.slice A n c) W ∧ IntsI W (.slice A n c) xs ∧ Below w.heap.size w W := by
  have ba : Below w.heap.size w (w.alloc (.cells #[] 3)) := (Below.refl _ _).alloc (Nat.le_refl _) _
  obtain ⟨v1, W1, e1, o1, g1⟩ := append_ints (own0 w (Nat.le_refl _)) (h.under ba (Nat.le_refl _)) (Nat.le_of_lt (by simp)) (by simp; omega)
  rw [List.nil_append] at o1
  have b1 := below_grown ba g1 (fun k hk => by simp [Value.ownBlock] at hk; omega) (Nat.le_refl _)
  have hr : IntsI W1 v1 xs := Own.reads (own_base o1)
  obtain ⟨A, c, rfl⟩ := hr.shape
  exact ⟨A, _, c, W1, e1, hr, b1⟩
theorem r51 : inRange 5 1 := by unfold inRange; omega
theorem toldF {s : Ro} {n gen slot : Int} (hr : inRange gen slot) : toldC s (F n) gen slot = callE s gen slot ∧ leftC s (F n) gen slot = callS s gen slot ∧ fuseC (F n) gen slot = F (n + 1) := by
  unfold toldC leftC fuseC
  rw [if_pos hr, if_pos hr, if_pos hr]
  exact ⟨rfl, rfl, rfl⟩
theorem toldN {s : Ro} {f : Fu} {gen slot : Int} (hr : ¬ inRange gen slot) : toldC s f gen slot = 1 ∧ leftC s f gen slot = s ∧ fuseC f gen slot = f := by
  unfold toldC leftC fuseC
  rw [if_neg hr, if_neg hr, if_neg hr]
  exact ⟨rfl, rfl, rfl⟩
theorem told51 (s : Ro) (bl : Bool) : toldC s ⟨true, 0, bl, 0⟩ 5 1 = 2 ∧ leftC s ⟨true, 0, bl, 0⟩ 5 1 = s ∧ fuseC ⟨true, 0, bl, 0⟩ 5 1 = ⟨true, 0, true, 0⟩ := by
  unfold toldC leftC fuseC
  rw [if_pos r51, if_pos r51, if_pos r51]
  exact ⟨rfl, rfl, rfl⟩
theorem fineA (bl : Bool) : Fine ⟨true, 0, bl, 0⟩ := ⟨fun _ => ⟨by simp, by simp⟩, fun _ => ⟨rfl, rfl⟩, by simp⟩
/-- A route of its own in memory. -/
def Cel (W : World) (k : Nat) (sl gn : Int) : Prop := W.heap[k]? = some (.cells #[.int .i64 sl, .int .i64 gn] 34 (0, 0))
theorem Cel.lt {W : World} {k : Nat} {sl gn : Int} (h : Cel W k sl gn) : k < W.heap.size := lt_of_block h
theorem Cel.c0 {W : World} {k : Nat} {sl gn : Int} (h : Cel W k sl gn) : W.cell? ⟨k, 0, none⟩ = some (.int .i64 sl) := by rw [cell_of_row W k 0 _ _ _ h]; rfl
theorem Cel.c1 {W : World} {k : Nat} {sl gn : Int} (h : Cel W k sl gn) : W.cell? ⟨k, 1, none⟩ = some (.int .i64 gn) := by rw [cell_of_row W k 1 _ _ _ h]; rfl
theorem Cel.fr {W : World} {k i : Nat} {sl gn : Int} (h : Cel W k sl gn) : W.frozen? ⟨k, i, none⟩ = false := by simp [World.frozen?, show W.heap[k]? = _ from h]
theorem Cel.turn {B : Nat} {W W' : World} {k : Nat} {sl gn : Int} (h : Cel W k sl gn) (ht : Turn B W W') : Cel W' k sl gn := ht.kind k _ 34 (by decide) (by decide) (by decide) h
theorem Cel.below {W W' : World} {k : Nat} {sl gn : Int} (h : Cel W k sl gn) (hb : Below W.heap.size W W') : Cel W' k sl gn := (hb.block k h.lt).trans h
theorem Cel.new (W : World) (sl gn : Int) : Cel (W.alloc (.cells #[.int .i64 sl, .int .i64 gn] 34)) W.heap.size sl gn := heap_alloc_new W _
theorem Cel.set {W : World} {k : Nat} {sl gn : Int} (h : Cel W k sl gn) (a b : Int) : Cel ((W.setCell ⟨k, 0, none⟩ (.int .i64 a)).setCell ⟨k, 1, none⟩ (.int .i64 b)) k a b :=
  heap_setCell_same _ _ 1 _ 34 (.int .i64 b) (heap_setCell_same _ _ 0 _ 34 (.int .i64 a) h)
theorem below_alloc (W : World) (o : Obj) : Below W.heap.size W (W.alloc o) := (Below.refl _ _).alloc (Nat.le_refl _) _
/-- What a call leaves: all as it was, or a greater generation's route. -/
theorem left_cases (s : Ro) (f : Fu) (g sl : Int) : ((leftC s f g sl).slot = s.slot ∧ (leftC s f g sl).gen = s.gen ∧ (leftC s f g sl).writes = s.writes) ∨ (inRange g sl ∧ s.gen < g ∧ (leftC s f g sl).slot = sl ∧ (leftC s f g sl).gen = g ∧ (leftC s f g sl).writes = s.writes + 1) := by
  unfold leftC
  by_cases hr : inRange g sl
  · rw [if_pos hr]
    by_cases hb : bears f = true
    · rw [if_pos hb]
      unfold callS
      by_cases h2 : outS s = 2
      · rw [if_pos h2]
        exact .inl ⟨rfl, rfl, rfl⟩
      · rw [if_neg h2]
        by_cases h3 : s.gen < g
        · rw [if_pos h3]
          exact .inr ⟨hr, h3, rfl, rfl, rfl⟩
        · rw [if_neg h3]
          exact .inl ⟨rfl, rfl, rfl⟩
    · rw [if_neg hb]
      exact .inl ⟨rfl, rfl, rfl⟩
  · rw [if_neg hr]
    exact .inl ⟨rfl, rfl, rfl⟩
theorem told_ok {s : Ro} {f : Fu} {g sl : Int} (h : toldC s f g sl = 0) : (leftC s f g sl).slot = sl ∧ (leftC s f g sl).gen = g := by
  unfold toldC at h
  unfold leftC
  by_cases hr : inRange g sl
  · rw [if_pos hr] at h ⊢
    by_cases hb : bears f = true
    · rw [if_pos hb] at h ⊢
      unfold callE at h
      unfold callS
      by_cases h2 : outS s = 2
      · rw [if_pos h2] at h
        exact absurd h (by omega)
      rw [if_neg h2] at h ⊢
      by_cases h1 : outS s = 1
      · rw [if_pos h1] at h
        exact absurd h (by omega)
      rw [if_neg h1] at h
      by_cases h3 : s.gen < g
      · rw [if_pos h3]
        exact ⟨rfl, rfl⟩
      · rw [if_neg h3] at h ⊢
        by_cases h4 : g < s.gen ∨ sl ≠ s.slot
        · rw [if_pos h4] at h
          exact absurd h (by omega)
        · exact ⟨by show s.slot = sl; omega, by show s.gen = g; omega⟩
    · rw [if_neg hb] at h
      exact absurd h (by omega)
  · rw [if_neg hr] at h
    exact absurd h (by omega)
theorem two_calls (s : Ro) (f : Fu) (g sl : Int) : ((leftC (leftC s f g sl) (fuseC f g sl) g sl).slot = s.slot ∧ (leftC (leftC s f g sl) (fuseC f g sl) g sl).gen = s.gen ∧ (leftC (leftC s f g sl) (fuseC f g sl) g sl).writes = s.writes) ∨ (s.gen < (leftC (leftC s f g sl) (fuseC f g sl) g sl).gen ∧ (leftC (leftC s f g sl) (fuseC f g sl) g sl).writes = s.writes + 1) := by
  rcases left_cases s f g sl with ⟨a1, a2, a3⟩ | ⟨a0, a1, a2, a3, a4⟩
  · rcases left_cases (leftC s f g sl) (fuseC f g sl) g sl with ⟨b1, b2, b3⟩ | ⟨_, b1, b2, b3, b4⟩
    · exact .inl ⟨b1.trans a1, b2.trans a2, b3.trans a3⟩
    · exact .inr ⟨by omega, by omega⟩
  · rcases left_cases (leftC s f g sl) (fuseC f g sl) g sl with ⟨b1, b2, b3⟩ | ⟨_, b1, b2, b3, b4⟩
    · exact .inr ⟨by omega, by omega⟩
    · exact absurd b1 (by omega)
theorem Bd.mono {n m : Nat} {s : Ro} {f : Fu} (h : Bd n s f) (hm : n ≤ m) : Bd m s f := ⟨h.left, h.blown, by have := h.count; omega, by have := h.writes; omega, by have := h.outs; omega⟩
end Go.Proofs.Ytdhonbgladenpaa
