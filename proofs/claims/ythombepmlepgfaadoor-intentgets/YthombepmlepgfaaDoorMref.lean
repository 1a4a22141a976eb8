/-
  What the document's own one, Most and least answer.
-/
import Derived.Test.YthombepmlepgfaaDoorNone
import Derived.Deep.Cut
namespace Go.Proofs.YthombepmlepgfaaDoor
open Go.RowKit

theorem mone_any (b : Bool) (w : World) : Calls Tryd.prog 29 #[.bool b] w fun e w' => e = .returned (.int .i64 (bitI b)) ∧ w' = w := by
  cases b
  · go_enter Tryd.func29, Tryd.ntmps29
    go_wp2
    go_ret
    exact ⟨rfl, rfl⟩
  · go_enter Tryd.func29, Tryd.ntmps29
    go_wp2
    go_ret
    exact ⟨rfl, rfl⟩
/-- The greatest numbers of a Kind's fields. -/
def mosts (fs : List Nat) : List Int := fs.map (at_ his)
/-- What a call leaves that answers a list and a bool. -/
def GotM (w : World) (k : Int) (e : Ending) (w' : World) : Prop := ∃ v, e = .returned (.tuple #[v, .bool (kindF k).isSome]) ∧ Vals w' v (ints (mosts ((kindF k).getD []))) ∧ Below w.heap.size w w'
theorem most_none (k : Int) (w : World) (hk : kindF k = none) : Calls Tryd.prog 20 #[.int .i64 k] w (GotM w k) := by
  have h := kind_none hk
  have n1 : (k == 1) = false := by simp; omega
  have n2 : (k == 2) = false := by simp; omega
  have n3 : (k == 3) = false := by simp; omega
  have n4 : (k == 4) = false := by simp; omega
  have n5 : (k == 5) = false := by simp; omega
  have n6 : (k == 6) = false := by simp; omega
  have n7 : (k == 7) = false := by simp; omega
  have n8 : (k == 8) = false := by simp; omega
  have n9 : (k == 9) = false := by simp; omega
  have n10 : (k == 10) = false := by simp; omega
  have n11 : (k == 11) = false := by simp; omega
  have HK := Lib.hid hk
  clear hk h
  go_enter Tryd.func20, Tryd.ntmps20
  go_wp2
  go_ret2
  exact ⟨.slice none 0 0, by rw [HK.out]; rfl, by rw [HK.out]; exact .inl ⟨rfl, rfl⟩, Below.refl _ _⟩
theorem most_lit (w : World) (xs : List Int) : Vals (w.alloc (.cells (ints xs).toArray 3)) (.slice (some ⟨w.heap.size, 0, none⟩) xs.length xs.length) (ints xs) ∧ Below w.heap.size w (w.alloc (.cells (ints xs).toArray 3)) := ⟨vals_lit w xs 3, (Below.refl _ _).alloc (Nat.le_refl _) _⟩
set_option maxHeartbeats 2000000 in
theorem most_any (k : Int) (w : World) : Calls Tryd.prog 20 #[.int .i64 k] w (GotM w k) := by
  cases hk : kindF k with
  | none => exact most_none k w hk
  | some fs =>
    have HM := Lib.hid (most_lit w (mosts fs)).1
    rcases kind_some hk with ⟨rfl, rfl⟩ | ⟨rfl, rfl⟩ | ⟨rfl, rfl⟩ | ⟨rfl, rfl⟩ | ⟨rfl, rfl⟩ | ⟨rfl, rfl⟩ | ⟨rfl, rfl⟩ | ⟨rfl, rfl⟩ | ⟨rfl, rfl⟩ | ⟨rfl, rfl⟩ | ⟨rfl, rfl⟩
    all_goals
      have HK := Lib.hid hk
      clear hk
      go_enter Tryd.func20, Tryd.ntmps20
      go_wp2
      go_ret2
      refine ⟨_, by rw [HK.out]; rfl, ?_, ?_⟩
      · rw [HK.out]
        exact HM.out
      · exact (Below.refl _ _).alloc (Nat.le_refl _) _

/-- The least number of a Kind's field. -/
def leastI (k : Int) (i : Nat) : Int := if k = 1 ∧ i < 2 ∨ 5 ≤ k ∧ k ≤ 8 ∧ i = 0 then 1 else 0
set_option maxHeartbeats 1000000 in
theorem least_any (k : Int) (i : Nat) (w : World) (hi : i ≤ 12) : Calls Tryd.prog 30 #[.int .i64 k, .int .i64 (i : Int)] w fun e w' => e = .returned (.int .i64 (leastI k i)) ∧ w' = w := by
  by_cases h1 : k = 1
  · subst h1
    by_cases h2 : i < 2
    · have HE : Hid (leastI 1 i = 1) := Lib.hid (by unfold leastI; rw [if_pos (by omega)])
      have e1 : decide ((i : Int) < 2) = true := by simp; omega
      go_enter Tryd.func30, Tryd.ntmps30
      go_wp2
      go_ret
      exact ⟨by rw [HE.out]; rfl, rfl⟩
    · have HE : Hid (leastI 1 i = 0) := Lib.hid (by unfold leastI; rw [if_neg (by omega)])
      have e1 : decide ((i : Int) < 2) = false := by simp; omega
      go_enter Tryd.func30, Tryd.ntmps30
      go_wp2
      go_ret
      exact ⟨by rw [HE.out]; rfl, rfl⟩
  · have n1 : (k == 1) = false := by simpa using h1
    by_cases h5 : 5 ≤ k
    · have e5 : decide (5 ≤ k) = true := by simpa using h5
      by_cases h8 : k ≤ 8
      · have e8 : decide (k ≤ 8) = true := by simpa using h8
        by_cases h0 : i = 0
        · subst h0
          have HE : Hid (leastI k 0 = 1) := Lib.hid (by unfold leastI; rw [if_pos (by omega)])
          go_enter Tryd.func30, Tryd.ntmps30
          go_wp2
          go_ret
          exact ⟨by rw [HE.out]; rfl, rfl⟩
        · have HE : Hid (leastI k i = 0) := Lib.hid (by unfold leastI; rw [if_neg (by omega)])
          have e0 : ((i : Int) == 0) = false := by simp; omega
          have e0' : decide (i = 0) = false := by simpa using h0
          go_enter Tryd.func30, Tryd.ntmps30
          go_wp2
          go_ret
          exact ⟨by rw [HE.out]; rfl, rfl⟩
      · have e8 : decide (k ≤ 8) = false := by simpa using h8
        have HE : Hid (leastI k i = 0) := Lib.hid (by unfold leastI; rw [if_neg (by omega)])
        go_enter Tryd.func30, Tryd.ntmps30
        go_wp2
        go_ret
        exact ⟨by rw [HE.out]; rfl, rfl⟩
    · have e5 : decide (5 ≤ k) = false := by simpa using h5
      have HE : Hid (leastI k i = 0) := Lib.hid (by unfold leastI; rw [if_neg (by omega)])
      go_enter Tryd.func30, Tryd.ntmps30
      go_wp2
      go_ret
      exact ⟨by rw [HE.out]; rfl, rfl⟩
/-- The ranges are those of the fields. -/
theorem least_lo {k : Int} {fs : List Nat} (h : kindF k = some fs) (i : Nat) (hi : i < fs.length) : leastI k i = at_ los fs[i] := by
  have : ∀ i, (h : i < fs.length) → leastI k i = at_ los fs[i] := by
    rcases kind_some h with ⟨rfl, rfl⟩ | ⟨rfl, rfl⟩ | ⟨rfl, rfl⟩ | ⟨rfl, rfl⟩ | ⟨rfl, rfl⟩ | ⟨rfl, rfl⟩ | ⟨rfl, rfl⟩ | ⟨rfl, rfl⟩ | ⟨rfl, rfl⟩ | ⟨rfl, rfl⟩ | ⟨rfl, rfl⟩ <;> decide
  exact this i hi
end Go.Proofs.YthombepmlepgfaaDoor
