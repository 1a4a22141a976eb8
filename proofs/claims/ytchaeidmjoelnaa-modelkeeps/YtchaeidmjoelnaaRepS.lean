/-
  Plain facts of a slot's replicas: l says which of the wanted ones are ready.
-/
namespace Go.Proofs.Ytchaeidmjoelnaa

/-- How many are ready. -/
def cntL (l : List Bool) : Nat := l.countP id
/-- The first i of them, and others that are not. -/
def padL (l : List Bool) (i : Nat) : List Bool := l.take i ++ List.replicate (i - l.length) false
def clampN (n : Int) : Nat := (min (max n 0) 32).toNat
theorem clampN_le (n : Int) : clampN n ≤ 32 := by unfold clampN; omega
/-- So many are wanted. -/
def scaleL (l : List Bool) (n : Int) : List Bool := padL l (clampN n)
def isW (l : List Bool) (i : Int) : Prop := 0 ≤ i ∧ i < l.length
instance (l : List Bool) (i : Int) : Decidable (isW l i) := by unfold isW; infer_instance
/-- One of them is ready, or isn't. -/
def readyL (l : List Bool) (i : Int) (on : Bool) : List Bool := if isW l i then l.set i.toNat on else l
def fullL (l : List Bool) : Bool := decide (0 < l.length) && decide (cntL l = l.length)
theorem padL_len (l : List Bool) (i : Nat) : (padL l i).length = i := by unfold padL; simp; omega
theorem scaleL_len (l : List Bool) (n : Int) : (scaleL l n).length = clampN n := padL_len l _
theorem readyL_len (l : List Bool) (i : Int) (on : Bool) : (readyL l i on).length = l.length := by
  unfold readyL
  by_cases h : isW l i
  · rw [if_pos h, List.length_set]
  · rw [if_neg h]
theorem padL_zero (l : List Bool) : padL l 0 = [] := by unfold padL; simp
theorem padL_succ (l : List Bool) (i : Nat) : padL l (i + 1) = padL l i ++ [l.getD i false] := by
  unfold padL
  by_cases h : i < l.length
  · have e1 : i + 1 - l.length = 0 := by omega
    have e2 : i - l.length = 0 := by omega
    rw [e1, e2, List.take_add_one, List.getD_eq_getElem?_getD, List.getElem?_eq_getElem h]
    simp
  · have e1 : i + 1 - l.length = (i - l.length) + 1 := by omega
    rw [e1, List.replicate_succ', List.take_of_length_le (by omega), List.take_of_length_le (by omega), List.getD_eq_getElem?_getD, List.getElem?_eq_none (by omega)]
    simp
theorem padL_at (l : List Bool) (i k : Nat) : (padL l i).getD k false = if k < i then l.getD k false else false := by
  simp only [List.getD_eq_getElem?_getD]
  unfold padL
  rw [List.getElem?_append]
  by_cases h1 : k < i
  · rw [if_pos h1]
    by_cases h2 : k < l.length
    · rw [if_pos (by simp; omega), List.getElem?_take_of_lt h1]
    · rw [if_neg (by simp; omega), List.getElem?_eq_none (l := l) (by omega)]
      rw [List.getElem?_replicate]
      split <;> rfl
  · rw [if_neg h1]
    rw [if_neg (by simp; omega), List.getElem?_replicate]
    split <;> rfl
theorem cnt_le (l : List Bool) : cntL l ≤ l.length := List.countP_le_length
theorem cnt_nil : cntL [] = 0 := rfl
theorem cnt_take_succ (l : List Bool) (k : Nat) (h : k < l.length) : cntL (l.take (k + 1)) = cntL (l.take k) + (if l.getD k false = true then 1 else 0) := by
  have e : l.getD k false = l[k] := by simp [List.getD_eq_getElem?_getD, h]
  rw [e]
  unfold cntL
  rw [List.take_add_one, List.getElem?_eq_getElem h, List.countP_append]
  cases l[k] <;> rfl
theorem set_getD (l : List Bool) (i k : Nat) (on : Bool) (h : i < l.length) : (l.set i on).getD k false = if k = i then on else l.getD k false := by
  simp only [List.getD_eq_getElem?_getD, List.getElem?_set]
  by_cases h1 : i = k
  · subst h1
    rw [if_pos rfl, if_pos h, if_pos rfl]
    rfl
  · rw [if_neg h1, if_neg (fun e => h1 e.symm)]
theorem ready_getD (l : List Bool) (i : Int) (k : Nat) (on : Bool) : (readyL l i on).getD k false = if isW l i ∧ (k : Int) = i then on else l.getD k false := by
  unfold readyL
  by_cases h : isW l i
  · rw [if_pos h, set_getD _ _ _ _ (by unfold isW at h; omega)]
    by_cases h1 : (k : Int) = i
    · rw [if_pos (by omega), if_pos ⟨h, h1⟩]
    · rw [if_neg (by unfold isW at h; omega), if_neg (fun h2 => h1 h2.2)]
  · rw [if_neg h, if_neg (fun h2 => h h2.1)]
theorem cnt_set (l : List Bool) : ∀ (i : Nat) (on : Bool), i < l.length → cntL (l.set i on) + (if l.getD i false = true then 1 else 0) = cntL l + (if on = true then 1 else 0) := by
  induction l with
  | nil => intro i on h; simp at h
  | cons x xs ih =>
    intro i on h
    cases i with
    | zero =>
      show cntL (on :: xs) + (if x = true then 1 else 0) = _
      unfold cntL
      cases x <;> cases on <;> simp
    | succ i =>
      have h2 := ih i on (by simpa using h)
      show cntL (x :: xs.set i on) + (if xs.getD i false = true then 1 else 0) = _
      unfold cntL at h2 ⊢
      rw [List.countP_cons, List.countP_cons]
      omega
theorem ext_getD {l m : List Bool} (hl : l.length = m.length) (h : ∀ k, l.getD k false = m.getD k false) : l = m := by
  apply List.ext_getElem hl
  intro k h1 h2
  have := h k
  simpa [List.getD_eq_getElem?_getD, List.getElem?_eq_getElem h1, List.getElem?_eq_getElem h2] using this
end Go.Proofs.Ytchaeidmjoelnaa
