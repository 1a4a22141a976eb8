/-
  What the laws over a map share: the map that says which replicas were made ready.
-/
import Derived.Test.YtfmcfneaeaokeaaLift
namespace Go.Proofs.Ytfmcfneaeaokeaa
open Go.RowKit

/-- The ready ones, as a map's entries. -/
def gOf (l : List Bool) : Int → Option Bool := fun i => if isW l i ∧ l.getD i.toNat false = true then some true else none
theorem gOf_zero (n : Nat) : gOf (List.replicate n false) = fun _ => none := by
  funext i
  unfold gOf
  rw [if_neg]
  rintro ⟨_, h⟩
  rw [List.getD_eq_getElem?_getD, List.getElem?_replicate] at h
  split at h <;> simp at h
theorem scale_nil (n : Nat) (h : n ≤ 32) : scaleL [] n = List.replicate n false := by
  unfold scaleL padL clampN
  have e : (min (max (n : Int) 0) 32).toNat = n := by omega
  rw [e]
  simp
theorem cnt_zero (n : Nat) : cntL (List.replicate n false) = 0 := by
  unfold cntL
  rw [List.countP_replicate]
  rfl
theorem ready_no {l : List Bool} {i : Int} {on : Bool} (h : ¬ isW l i) : readyL l i on = l := by unfold readyL; rw [if_neg h]
theorem isW_ready {l : List Bool} {i j : Int} {on : Bool} : isW (readyL l i on) j ↔ isW l j := by unfold isW; rw [readyL_len]
theorem gOf_ready {l : List Bool} {i : Int} (h : isW l i) : (fun j => if j = i then some true else gOf l j) = gOf (readyL l i true) := by
  funext j
  unfold gOf
  by_cases hj : j = i
  · subst hj
    have h0 := h
    unfold isW at h0
    rw [if_pos rfl, if_pos ⟨isW_ready.2 h, by rw [ready_getD, if_pos ⟨h, by omega⟩]⟩]
  · rw [if_neg hj]
    by_cases hw : isW l j
    · have h0 := hw
      unfold isW at h0
      have e : (readyL l i true).getD j.toNat false = l.getD j.toNat false := by rw [ready_getD, if_neg (by rintro ⟨_, h2⟩; exact hj (by omega))]
      by_cases hx : l.getD j.toNat false = true
      · rw [if_pos ⟨hw, hx⟩, if_pos ⟨isW_ready.2 hw, by rw [e]; exact hx⟩]
      · rw [if_neg (fun h2 => hx h2.2), if_neg (fun h2 => hx (by rw [← e]; exact h2.2))]
    · rw [if_neg (fun h2 => hw h2.1), if_neg (fun h2 => hw (isW_ready.1 h2.1))]
theorem cnt_ready {l : List Bool} {i : Int} (h : isW l i) (on : Bool) : cntL (readyL l i on) + (if l.getD i.toNat false = true then 1 else 0) = cntL l + (if on = true then 1 else 0) := by
  unfold readyL
  rw [if_pos h]
  exact cnt_set l i.toNat on (by unfold isW at h; omega)
theorem cnt_gOf {l : List Bool} {i : Int} (h : isW l i) : (if (gOf l i).isSome then cntL l else cntL l + 1) = cntL (readyL l i true) := by
  have h1 := cnt_ready h true
  by_cases hx : l.getD i.toNat false = true
  · have e : gOf l i = some true := by unfold gOf; rw [if_pos ⟨h, hx⟩]
    rw [e]
    rw [if_pos hx] at h1
    simp at h1 ⊢
    omega
  · have e : gOf l i = none := by unfold gOf; rw [if_neg (fun h2 => hx h2.2)]
    rw [e]
    rw [if_neg hx] at h1
    simp at h1 ⊢
    omega
theorem full_is (l : List Bool) : fullL l = true ↔ 0 < l.length ∧ cntL l = l.length := by unfold fullL; simp
theorem full_off {l : List Bool} {i : Int} (h : isW l i) : fullL (readyL l i false) = false := by
  cases hf : fullL (readyL l i false) with
  | false => rfl
  | true =>
    obtain ⟨_, h2⟩ := (full_is _).1 hf
    have h1 := cnt_ready h false
    have h3 := cnt_le l
    rw [readyL_len] at h2
    by_cases hx : l.getD i.toNat false = true
    · rw [if_pos hx] at h1
      simp at h1
      omega
    · have h4 : cntL l = l.length := by
        rw [if_neg hx] at h1
        simp at h1
        omega
      exfalso
      apply hx
      have h5 : ∀ x ∈ l, id x = true := List.countP_eq_length.1 h4
      unfold isW at h
      have h6 : i.toNat < l.length := by omega
      rw [show l.getD i.toNat false = l[i.toNat] from by simp [List.getD_eq_getElem?_getD, h6]]
      exact h5 _ (List.getElem_mem h6)
end Go.Proofs.Ytfmcfneaeaokeaa
