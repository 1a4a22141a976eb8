/-
  Plain facts of a fleet: k and l say which of the wanted ones of the slots 0 and 1 are ready.
-/
import Derived.Test.YtchaeidmjoelnaaRepS
namespace Go.Proofs.Ytchaeidmjoelnaa

/-- A slot's list; of others none. -/
def slotK (s : Int) (k l : List Bool) : List Bool := if s = 0 then k else if s = 1 then l else []
/-- Slot 0's list, slot 1's list, behind a Ready of slot s. -/
def rdA (k : List Bool) (s i : Int) (on : Bool) : List Bool := if s = 0 then readyL k i on else k
def rdB (l : List Bool) (s i : Int) (on : Bool) : List Bool := if s = 1 then readyL l i on else l
theorem rdA_len (k : List Bool) (s i : Int) (on : Bool) : (rdA k s i on).length = k.length := by
  unfold rdA
  split
  · exact readyL_len _ _ _
  · rfl
theorem rdB_len (k : List Bool) (s i : Int) (on : Bool) : (rdB k s i on).length = k.length := by
  unfold rdB
  split
  · exact readyL_len _ _ _
  · rfl
theorem slotK_le {s : Int} {k l : List Bool} (h : k.length ≤ 32 ∧ l.length ≤ 32) : (slotK s k l).length ≤ 32 := by
  unfold slotK
  split
  · exact h.1
  · split
    · exact h.2
    · exact Nat.zero_le _
theorem scaleL_le (l : List Bool) (n : Int) : (scaleL l n).length ≤ 32 := by rw [scaleL_len]; exact clampN_le n
/-- All are ready. -/
def fillL (k : List Bool) : List Bool := List.replicate k.length true
theorem fillL_len (k : List Bool) : (fillL k).length = k.length := by unfold fillL; simp
theorem fillL_cnt (k : List Bool) : cntL (fillL k) = k.length := by unfold fillL cntL; simp [List.countP_replicate]
/-- The first i of them are made ready, one by one. -/
def fillTo (k : List Bool) : Nat → List Bool
  | 0 => k
  | i + 1 => readyL (fillTo k i) i true
theorem fillTo_len (k : List Bool) : ∀ i, (fillTo k i).length = k.length
  | 0 => rfl
  | i + 1 => by rw [fillTo, readyL_len, fillTo_len k i]
theorem fillTo_at (k : List Bool) (j : Nat) (hj : j < k.length) : ∀ i, (fillTo k i).getD j false = if j < i then true else k.getD j false
  | 0 => by rw [if_neg (by omega)]; rfl
  | i + 1 => by
    rw [fillTo, ready_getD]
    by_cases h : j = i
    · subst h
      rw [if_pos ⟨by unfold isW; rw [fillTo_len]; omega, rfl⟩, if_pos (by omega)]
    · rw [if_neg (fun h2 => h (by omega)), fillTo_at k j hj i]
      by_cases h2 : j < i
      · rw [if_pos h2, if_pos (by omega)]
      · rw [if_neg h2, if_neg (by omega)]
theorem fillTo_all (k : List Bool) (i : Nat) (h : k.length ≤ i) : fillTo k i = fillL k := by
  refine ext_getD (by rw [fillTo_len, fillL_len]) (fun j => ?_)
  by_cases hj : j < k.length
  · rw [fillTo_at k j hj, if_pos (by omega)]
    unfold fillL
    rw [List.getD_eq_getElem?_getD, List.getElem?_replicate, if_pos hj]
    rfl
  · rw [List.getD_eq_getElem?_getD, List.getD_eq_getElem?_getD, List.getElem?_eq_none (by rw [fillTo_len]; omega), List.getElem?_eq_none (by rw [fillL_len]; omega)]
theorem isW_nil (i : Int) : ¬ isW [] i := by unfold isW; simp
theorem full_nil : fullL [] = false := by decide
end Go.Proofs.Ytchaeidmjoelnaa
