/-
  What comes of a state that may be may be: plain facts, no program.
-/
import Derived.Test.YtchaeidmjoelnaaEqs
import Derived.Test.YtchaeidmjoelnaaFoStep
namespace Go.Proofs.Ytchaeidmjoelnaa
open Go.RowKit

section
variable {ph ra wa ro wo dl gn sw fl : Int} {pa po : Bool}
theorem x_blank (X : RightX ph ra wa pa ro wo po dl gn sw fl) (hs : sw = 0) : RightX 0 ra wa pa 0 0 false dl gn sw fl := by
  obtain ⟨h1, h2, h3, h4, h5, h6, h7, h8, h9⟩ := X
  exact ⟨by omega, by omega, by omega, h4, by omega, fun _ => rfl, by omega, by omega, by omega⟩
theorem x_phase (n : Int) (X : RightX ph ra wa pa ro wo po dl gn sw fl) (h0 : 0 < ph) (hn : 0 < n ∧ n ≤ 7) (he : 2 < ph ↔ 2 < n) (hs : sw = 0) : RightX n ra wa pa ro wo po dl gn sw fl := by
  obtain ⟨h1, h2, h3, h4, h5, h6, h7, h8, h9⟩ := X
  exact ⟨by omega, by omega, by omega, h4, by omega, by omega, fun _ => h7 h0, fun _ => by rw [h8 h0]; exact decide_eq_decide.2 he, by omega⟩
theorem x_pass (X : RightX ph ra wa pa ro wo po dl gn sw fl) (h2' : ph = 2) : RightX 3 ra wa pa ro wo true dl gn sw fl := by
  obtain ⟨h1, h2, h3, h4, h5, h6, h7, h8, h9⟩ := X
  exact ⟨by omega, by omega, by omega, h4, by omega, by omega, fun _ => h7 (by omega), fun _ => rfl, by omega⟩
theorem x_deploy (rev cnt delay : Int) (X : RightX ph ra wa pa ro wo po dl gn sw fl) (hp : ph = 0 ∨ ph = 1 ∨ ph = 2) (h : 1 ≤ rev ∧ rev ≤ 1073741824 ∧ 1 ≤ cnt ∧ cnt ≤ 32 ∧ 0 ≤ delay ∧ delay ≤ 65536 ∧ rev ≠ ra) : RightX 1 ra wa pa rev cnt false delay gn sw fl := by
  obtain ⟨h1, h2, h3, h4, h5, h6, h7, h8, h9⟩ := X
  exact ⟨by omega, by omega, by omega, h4, by omega, by omega, by omega, fun _ => rfl, by omega⟩
theorem x_switch (g s : Int) (X : RightX ph ra wa pa ro wo po dl gn sw fl) (h : 0 ≤ g ∧ g ≤ 1048576 ∧ 0 ≤ s ∧ s ≤ 2) (hs : s = 0 ∨ ((ph = 3 ∨ ph = 6) ∧ 0 < g)) : RightX ph ra wa pa ro wo po dl g s fl := by
  obtain ⟨h1, h2, h3, h4, h5, h6, h7, h8, h9⟩ := X
  exact ⟨by omega, by omega, by omega, h4, h5, h6, h7, h8, hs⟩
theorem x_apply (n tick : Int) (X : RightX ph ra wa pa ro wo po dl gn sw fl) (hs : sw = 2) (hn : n = 4 ∨ n = 7) (ht : 0 ≤ tick ∧ tick ≤ 1073741824) : RightX n ro wo po ra wa pa dl gn 0 tick := by
  obtain ⟨h1, h2, h3, h4, h5, h6, h7, h8, h9⟩ := X
  have hp : 2 < ph := by omega
  have e : po = true := by rw [h8 (by omega)]; exact decide_eq_true hp
  exact ⟨by omega, by omega, by have := h7 (by omega); omega, e, by omega, by omega, fun _ => by have := h7 (by omega); omega, fun _ => by rw [h4, decide_eq_true (by omega)], Or.inl rfl⟩
end
theorem r_0 (ph r0 r1 w0 w1 dl gn sw fl : Int) (p0 p1 : Bool) : rightS (⟨ph, 0, r0, r1, w0, w1, p0, p1, dl, gn, sw, fl⟩ : St) = decide (RightX ph r0 w0 p0 r1 w1 p1 dl gn sw fl) := rfl
theorem right_step_0 (ph r0 r1 w0 w1 dl gn sw fl : Int) (p0 p1 : Bool) (r : Rc) (h : rightS (⟨ph, 0, r0, r1, w0, w1, p0, p1, dl, gn, sw, fl⟩ : St) = true) : rightS (stepS (⟨ph, 0, r0, r1, w0, w1, p0, p1, dl, gn, sw, fl⟩ : St) r).1 = true := by
  have X := of_decide_eq_true ((r_0 ph r0 r1 w0 w1 dl gn sw fl p0 p1).symm.trans h)
  have K := X
  unfold RightX at K
  obtain ⟨kind, rev, cnt, delay, gen, tick, pass, st⟩ := r
  unfold stepS
  rw [if_neg (by rw [h]; decide)]
  simp only
  split
  · unfold step1
    simp only
    split
    · exact h
    · split
      · exact h
      · rename_i h1 h2
        have h2' : ¬ (rev < 1 ∨ 1073741824 < rev ∨ cnt < 1 ∨ 32 < cnt ∨ delay < 0 ∨ 65536 < delay ∨ rev = r0 ∨ 1048574 < gn) := h2
        have Y := x_deploy rev cnt delay X (by omega) (by omega)
        exact decide_eq_true Y
  split
  · unfold step2
    simp only
    split
    · have Y := x_blank X (by omega)
      exact decide_eq_true Y
    · by_cases hc : ph = 4 ∨ ph = 5
      · rw [pick_yes _ _ hc]
        have Y := x_phase 6 X (by omega) (by omega) (by omega) (by omega)
        exact decide_eq_true Y
      · rw [pick_no _ _ hc]; exact h
  split
  · unfold step3
    by_cases hc : ph = 1
    · rw [pick_yes _ _ hc]
      have Y := x_phase 2 X (by omega) (by omega) (by omega) (by omega)
      exact decide_eq_true Y
    · rw [pick_no _ _ hc]; exact h
  split
  · unfold step4
    simp only
    split
    · have Y := x_blank X (by omega)
      exact decide_eq_true Y
    · by_cases hc : ph = 2
      · rw [pick_yes _ _ hc]
        have Y := x_pass X hc
        exact decide_eq_true Y
      · rw [pick_no _ _ hc]; exact h
  split
  · unfold step5
    simp only
    by_cases hc : (ph = 3 ∨ ph = 6) ∧ sw = 0 ∧ gn < 1048576 ∧ gen = gn + 1
    · rw [pick_yes _ _ hc]
      have Y := x_switch gen 1 X (by omega) (by omega)
      exact decide_eq_true Y
    · rw [pick_no _ _ hc]; exact h
  split
  · unfold step6
    simp only
    by_cases hc : sw = 1 ∧ gen = gn
    · rw [pick_yes _ _ hc]
      have Y := x_switch gn 2 X (by omega) (by omega)
      exact decide_eq_true Y
    · rw [pick_no _ _ hc]; exact h
  split
  · unfold step7
    simp only
    by_cases hc : sw = 1 ∧ gen = gn
    · rw [pick_yes _ _ hc]
      have Y := x_switch (gn - 1) 0 X (by omega) (by omega)
      exact decide_eq_true Y
    · rw [pick_no _ _ hc]; exact h
  split
  · unfold step8
    simp only
    by_cases hc : sw = 2 ∧ gen = gn ∧ 0 ≤ tick ∧ tick ≤ 1073741824
    · rw [pick_yes _ _ hc]
      have Y := x_apply (if ph = 3 then 4 else 7) tick X hc.1 (by split <;> omega) (by omega)
      exact decide_eq_true Y
    · rw [pick_no _ _ hc]; exact h
  split
  · unfold step9
    simp only
    by_cases hc : ph = 4
    · rw [pick_yes _ _ hc]
      cases pass
      · have Y := x_phase 6 X (by omega) (by omega) (by omega) (by omega)
        exact decide_eq_true Y
      · have Y := x_phase 5 X (by omega) (by omega) (by omega) (by omega)
        exact decide_eq_true Y
    · rw [pick_no _ _ hc]; exact h
  split
  · unfold step10
    by_cases hc : ph = 5 ∨ ph = 7
    · rw [pick_yes _ _ hc]
      have Y := x_blank X (by omega)
      exact decide_eq_true Y
    · rw [pick_no _ _ hc]; exact h
  exact h
theorem r_1 (ph r0 r1 w0 w1 dl gn sw fl : Int) (p0 p1 : Bool) : rightS (⟨ph, 1, r0, r1, w0, w1, p0, p1, dl, gn, sw, fl⟩ : St) = decide (RightX ph r1 w1 p1 r0 w0 p0 dl gn sw fl) := rfl
theorem right_step_1 (ph r0 r1 w0 w1 dl gn sw fl : Int) (p0 p1 : Bool) (r : Rc) (h : rightS (⟨ph, 1, r0, r1, w0, w1, p0, p1, dl, gn, sw, fl⟩ : St) = true) : rightS (stepS (⟨ph, 1, r0, r1, w0, w1, p0, p1, dl, gn, sw, fl⟩ : St) r).1 = true := by
  have X := of_decide_eq_true ((r_1 ph r0 r1 w0 w1 dl gn sw fl p0 p1).symm.trans h)
  have K := X
  unfold RightX at K
  obtain ⟨kind, rev, cnt, delay, gen, tick, pass, st⟩ := r
  unfold stepS
  rw [if_neg (by rw [h]; decide)]
  simp only
  split
  · unfold step1
    simp only
    split
    · exact h
    · split
      · exact h
      · rename_i h1 h2
        have h2' : ¬ (rev < 1 ∨ 1073741824 < rev ∨ cnt < 1 ∨ 32 < cnt ∨ delay < 0 ∨ 65536 < delay ∨ rev = r1 ∨ 1048574 < gn) := h2
        have Y := x_deploy rev cnt delay X (by omega) (by omega)
        exact decide_eq_true Y
  split
  · unfold step2
    simp only
    split
    · have Y := x_blank X (by omega)
      exact decide_eq_true Y
    · by_cases hc : ph = 4 ∨ ph = 5
      · rw [pick_yes _ _ hc]
        have Y := x_phase 6 X (by omega) (by omega) (by omega) (by omega)
        exact decide_eq_true Y
      · rw [pick_no _ _ hc]; exact h
  split
  · unfold step3
    by_cases hc : ph = 1
    · rw [pick_yes _ _ hc]
      have Y := x_phase 2 X (by omega) (by omega) (by omega) (by omega)
      exact decide_eq_true Y
    · rw [pick_no _ _ hc]; exact h
  split
  · unfold step4
    simp only
    split
    · have Y := x_blank X (by omega)
      exact decide_eq_true Y
    · by_cases hc : ph = 2
      · rw [pick_yes _ _ hc]
        have Y := x_pass X hc
        exact decide_eq_true Y
      · rw [pick_no _ _ hc]; exact h
  split
  · unfold step5
    simp only
    by_cases hc : (ph = 3 ∨ ph = 6) ∧ sw = 0 ∧ gn < 1048576 ∧ gen = gn + 1
    · rw [pick_yes _ _ hc]
      have Y := x_switch gen 1 X (by omega) (by omega)
      exact decide_eq_true Y
    · rw [pick_no _ _ hc]; exact h
  split
  · unfold step6
    simp only
    by_cases hc : sw = 1 ∧ gen = gn
    · rw [pick_yes _ _ hc]
      have Y := x_switch gn 2 X (by omega) (by omega)
      exact decide_eq_true Y
    · rw [pick_no _ _ hc]; exact h
  split
  · unfold step7
    simp only
    by_cases hc : sw = 1 ∧ gen = gn
    · rw [pick_yes _ _ hc]
      have Y := x_switch (gn - 1) 0 X (by omega) (by omega)
      exact decide_eq_true Y
    · rw [pick_no _ _ hc]; exact h
  split
  · unfold step8
    simp only
    by_cases hc : sw = 2 ∧ gen = gn ∧ 0 ≤ tick ∧ tick ≤ 1073741824
    · rw [pick_yes _ _ hc]
      have Y := x_apply (if ph = 3 then 4 else 7) tick X hc.1 (by split <;> omega) (by omega)
      exact decide_eq_true Y
    · rw [pick_no _ _ hc]; exact h
  split
  · unfold step9
    simp only
    by_cases hc : ph = 4
    · rw [pick_yes _ _ hc]
      cases pass
      · have Y := x_phase 6 X (by omega) (by omega) (by omega) (by omega)
        exact decide_eq_true Y
      · have Y := x_phase 5 X (by omega) (by omega) (by omega) (by omega)
        exact decide_eq_true Y
    · rw [pick_no _ _ hc]; exact h
  split
  · unfold step10
    by_cases hc : ph = 5 ∨ ph = 7
    · rw [pick_yes _ _ hc]
      have Y := x_blank X (by omega)
      exact decide_eq_true Y
    · rw [pick_no _ _ hc]; exact h
  exact h
theorem right_step {s : St} (r : Rc) (h : rightS s = true) : rightS (stepS s r).1 = true := by
  have ha := (right_in h).1
  obtain ⟨ph, ac, r0, r1, w0, w1, p0, p1, dl, gn, sw, fl⟩ := s
  rcases ha with ha | ha
  · obtain rfl : ac = 0 := ha
    exact right_step_0 _ _ _ _ _ _ _ _ _ _ _ r h
  · obtain rfl : ac = 1 := ha
    exact right_step_1 _ _ _ _ _ _ _ _ _ _ _ r h
theorem step_wrong {s : St} (r : Rc) (h : rightS s = false) : stepS s r = (s, false) := by unfold stepS; rw [if_pos h]
theorem pick_fst (s n : St) (b : Bool) (h : (pickS s n b).2 = false) : (pickS s n b).1 = s := by cases b <;> simp_all [pickS]
theorem step1_no {s : St} {r : Rc} (h : (step1 s r).2 = false) : (step1 s r).1 = s := by
  unfold step1 at h ⊢
  split
  · rfl
  · rename_i h1
    rw [if_neg h1] at h
    split
    · rfl
    · rename_i h2
      rw [if_neg h2] at h
      cases h
theorem step2_no {s : St} (h : (step2 s).2 = false) : (step2 s).1 = s := by
  unfold step2 at h ⊢
  split
  · rename_i h1
    rw [if_pos h1] at h
    cases h
  · rename_i h1
    rw [if_neg h1] at h
    exact pick_fst _ _ _ h
theorem step4_no {s : St} {r : Rc} (h : (step4 s r).2 = false) : (step4 s r).1 = s := by
  unfold step4 at h ⊢
  split
  · rename_i h1
    rw [if_pos h1] at h
    cases h
  · rename_i h1
    rw [if_neg h1] at h
    exact pick_fst _ _ _ h
theorem step_no {s : St} {r : Rc} (h : (stepS s r).2 = false) : (stepS s r).1 = s := by
  unfold stepS at h ⊢
  by_cases hr : rightS s = false
  · rw [if_pos hr]
  rw [if_neg hr] at h ⊢
  by_cases h1 : r.kind = 1
  · rw [if_pos h1] at h ⊢; exact step1_no h
  rw [if_neg h1] at h ⊢
  by_cases h2 : r.kind = 2
  · rw [if_pos h2] at h ⊢; exact step2_no h
  rw [if_neg h2] at h ⊢
  by_cases h3 : r.kind = 3
  · rw [if_pos h3] at h ⊢; exact pick_fst _ _ _ h
  rw [if_neg h3] at h ⊢
  by_cases h4 : r.kind = 4
  · rw [if_pos h4] at h ⊢; exact step4_no h
  rw [if_neg h4] at h ⊢
  by_cases h5 : r.kind = 5
  · rw [if_pos h5] at h ⊢; exact pick_fst _ _ _ h
  rw [if_neg h5] at h ⊢
  by_cases h6 : r.kind = 6
  · rw [if_pos h6] at h ⊢; exact pick_fst _ _ _ h
  rw [if_neg h6] at h ⊢
  by_cases h7 : r.kind = 7
  · rw [if_pos h7] at h ⊢; exact pick_fst _ _ _ h
  rw [if_neg h7] at h ⊢
  by_cases h8 : r.kind = 8
  · rw [if_pos h8] at h ⊢; exact pick_fst _ _ _ h
  rw [if_neg h8] at h ⊢
  by_cases h9 : r.kind = 9
  · rw [if_pos h9] at h ⊢; exact pick_fst _ _ _ h
  rw [if_neg h9] at h ⊢
  by_cases h10 : r.kind = 10
  · rw [if_pos h10] at h ⊢; exact pick_fst _ _ _ h
  rw [if_neg h10] at h ⊢
theorem fits_step {s : St} (r : Rc) (h : FitsS s) : FitsS (stepS s r).1 := by
  cases hr : rightS s with
  | false => rw [step_wrong r hr]; exact h
  | true => exact right_fits (right_step r hr)
end Go.Proofs.Ytchaeidmjoelnaa
