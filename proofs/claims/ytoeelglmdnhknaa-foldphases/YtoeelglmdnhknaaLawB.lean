/-
  What a record turns, field by field: plain facts, no program.
-/
import Derived.Test.YtoeelglmdnhknaaLaw
namespace Go.Proofs.Ytoeelglmdnhknaa
open Go.RowKit

theorem ok_right {s : St} {r : Rc} (h : (stepS s r).2 = true) : rightS s = true := by
  cases hr : rightS s with
  | true => rfl
  | false => rw [step_wrong r hr] at h; cases h
theorem step_of {s : St} {r : Rc} (hr : rightS s = true) : stepS s r = (if r.kind = 1 then step1 s r else if r.kind = 2 then step2 s else if r.kind = 3 then step3 s else if r.kind = 4 then step4 s r else if r.kind = 5 then step5 s r
  else if r.kind = 6 then step6 s r else if r.kind = 7 then step7 s r else if r.kind = 8 then step8 s r else if r.kind = 9 then step9 s r else if r.kind = 10 then step10 s else (s, false)) := by
  unfold stepS
  rw [if_neg (by rw [hr]; decide)]
theorem pick_ok {s n : St} {p : Prop} [Decidable p] (h : (pickS s n (decide p)).2 = true) : p ∧ pickS s n (decide p) = (n, true) := by
  by_cases hp : p
  · exact ⟨hp, pick_yes _ _ hp⟩
  · rw [pick_no _ _ hp] at h; cases h
theorem gens_5 {s : St} {r : Rc} (hk : r.kind = 5) (h : (stepS s r).2 = true) : (stepS s r).1 = { s with gn := s.gn + 1, sw := 1 } ∧ s.sw = 0 ∧ r.gen = s.gn + 1 := by
  have hr := ok_right h
  have e : stepS s r = step5 s r := by rw [step_of hr]; simp [hk]
  rw [e] at h ⊢
  unfold step5 at h ⊢
  obtain ⟨h1, h2⟩ := pick_ok h
  rw [h2]
  exact ⟨by rw [h1.2.2.2], h1.2.1, h1.2.2.2⟩
theorem gens_5b {s : St} {r : Rc} (hk : r.kind = 5) (h : (stepS s r).2 = true) : stepS (stepS s r).1 ⟨7, 0, 0, 0, r.gen, 0, false, zeroS⟩ = (s, true) := by
  have hr := right_step r (ok_right h)
  obtain ⟨h1, h2, h3⟩ := gens_5 hk h
  rw [step_of hr, h1]
  simp only [Int.reduceEq, reduceIte]
  unfold step7
  rw [pick_yes _ _ (by simp; exact h3)]
  obtain ⟨ph, ac, r0, r1, w0, w1, p0, p1, dl, gn, sw, fl⟩ := s
  simp only at h2
  subst h2
  simp
theorem gens_7 {s : St} {r : Rc} (hk : r.kind = 7) (h : (stepS s r).2 = true) : (stepS s r).1.gn = s.gn - 1 ∧ (stepS s r).1.sw = 0 := by
  have hr := ok_right h
  have e : stepS s r = step7 s r := by rw [step_of hr]; simp [hk]
  rw [e] at h ⊢
  unfold step7 at h ⊢
  obtain ⟨h1, h2⟩ := pick_ok h
  rw [h2]
  exact ⟨rfl, rfl⟩
theorem pick_fld {f : St → Int} {s n : St} (b : Bool) (h : f n = f s) : f (pickS s n b).1 = f s := by
  cases b
  · rfl
  · exact h
theorem keep {f : St → Int} {s : St} {r : Rc} (hO : ∀ a b d, f { setO s a b false with dl := d, ph := 1 } = f s) (hB : f (blankS s) = f s) (hP : ∀ e, f { s with ph := e } = f s) (hQ : f { setP s true with ph := 3 } = f s)
    (h5 : r.kind = 5 → ∀ a, f { s with gn := a, sw := 1 } = f s) (h6 : f { s with sw := 2 } = f s) (h7 : r.kind = 7 → f { s with sw := 0, gn := s.gn - 1 } = f s) (h8 : r.kind = 8 → ∀ t p, f { s with sw := 0, ac := 1 - s.ac, fl := t, ph := p } = f s) : f (stepS s r).1 = f s := by
  unfold stepS
  by_cases hr : rightS s = false
  · rw [if_pos hr]
  rw [if_neg hr]
  by_cases k1 : r.kind = 1
  · rw [if_pos k1]
    unfold step1
    split
    · rfl
    · split
      · rfl
      · exact hO _ _ _
  rw [if_neg k1]
  by_cases k2 : r.kind = 2
  · rw [if_pos k2]
    unfold step2
    split
    · exact hB
    · exact pick_fld _ (hP _)
  rw [if_neg k2]
  by_cases k3 : r.kind = 3
  · rw [if_pos k3]; exact pick_fld _ (hP _)
  rw [if_neg k3]
  by_cases k4 : r.kind = 4
  · rw [if_pos k4]
    unfold step4
    split
    · exact hB
    · exact pick_fld _ hQ
  rw [if_neg k4]
  by_cases k5 : r.kind = 5
  · rw [if_pos k5]; exact pick_fld _ (h5 k5 _)
  rw [if_neg k5]
  by_cases k6 : r.kind = 6
  · rw [if_pos k6]; exact pick_fld _ h6
  rw [if_neg k6]
  by_cases k7 : r.kind = 7
  · rw [if_pos k7]; exact pick_fld _ (h7 k7)
  rw [if_neg k7]
  by_cases k8 : r.kind = 8
  · rw [if_pos k8]; exact pick_fld _ (h8 k8 _ _)
  rw [if_neg k8]
  by_cases k9 : r.kind = 9
  · rw [if_pos k9]; exact pick_fld _ (hP _)
  rw [if_neg k9]
  by_cases k10 : r.kind = 10
  · rw [if_pos k10]; exact pick_fld _ hB
  rw [if_neg k10]
theorem gens_other {s : St} {r : Rc} (h5 : r.kind ≠ 5) (h7 : r.kind ≠ 7) : (stepS s r).1.gn = s.gn :=
  keep (f := St.gn) (fun _ _ _ => by unfold setO; split <;> rfl) (by unfold blankS; split <;> rfl) (fun _ => rfl) (by unfold setP; split <;> rfl) (fun h => absurd h h5) rfl (fun h => absurd h h7) (fun _ _ _ => rfl)
theorem routes_8 {s : St} {r : Rc} (hk : r.kind = 8) (h : (stepS s r).2 = true) : (stepS s r).1 = { s with sw := 0, ac := 1 - s.ac, fl := r.tick, ph := if s.ph = 3 then 4 else 7 } ∧ s.sw = 2 ∧ r.gen = s.gn := by
  have hr := ok_right h
  have e : stepS s r = step8 s r := by rw [step_of hr]; simp [hk]
  rw [e] at h ⊢
  unfold step8 at h ⊢
  obtain ⟨h1, h2⟩ := pick_ok h
  rw [h2]
  exact ⟨rfl, h1.1, h1.2.1⟩
theorem passed_of {s : St} (hr : rightS s = true) (h : s.sw = 2) : s.p0 = true ∧ s.p1 = true := by
  obtain ⟨ph, ac, r0, r1, w0, w1, p0, p1, dl, gn, sw, fl⟩ := s
  have ha := (right_in hr).1
  simp only at h ha ⊢
  rcases ha with rfl | rfl
  · have X := of_decide_eq_true (show decide (RightX ph r0 w0 p0 r1 w1 p1 dl gn sw fl) = true from hr)
    obtain ⟨h1, h2, h3, h4, h5, h6, h7, h8, h9⟩ := X
    exact ⟨h4, by rw [h8 (by omega), decide_eq_true (by omega)]⟩
  · have X := of_decide_eq_true (show decide (RightX ph r1 w1 p1 r0 w0 p0 dl gn sw fl) = true from hr)
    obtain ⟨h1, h2, h3, h4, h5, h6, h7, h8, h9⟩ := X
    exact ⟨by rw [h8 (by omega), decide_eq_true (by omega)], h4⟩
theorem routes_0 {s : St} {r : Rc} (hk : r.kind ≠ 8) (ha : s.ac = 0) : (stepS s r).1.ac = 0 ∧ (stepS s r).1.r0 = s.r0 ∧ (stepS s r).1.w0 = s.w0 :=
  ⟨(keep (f := St.ac) (fun _ _ _ => by unfold setO; split <;> first | rfl | omega) (by unfold blankS; split <;> first | rfl | omega) (fun _ => rfl) (by unfold setP; split <;> first | rfl | omega) (fun _ _ => rfl) rfl (fun _ => rfl) (fun h => absurd h hk)).trans ha, keep (f := St.r0) (fun _ _ _ => by unfold setO; split <;> first | rfl | omega) (by unfold blankS; split <;> first | rfl | omega) (fun _ => rfl) (by unfold setP; split <;> first | rfl | omega) (fun _ _ => rfl) rfl (fun _ => rfl) (fun h => absurd h hk), keep (f := St.w0) (fun _ _ _ => by unfold setO; split <;> first | rfl | omega) (by unfold blankS; split <;> first | rfl | omega) (fun _ => rfl) (by unfold setP; split <;> first | rfl | omega) (fun _ _ => rfl) rfl (fun _ => rfl) (fun h => absurd h hk)⟩
theorem routes_1 {s : St} {r : Rc} (hk : r.kind ≠ 8) (ha : s.ac = 1) : (stepS s r).1.ac = 1 ∧ (stepS s r).1.r1 = s.r1 ∧ (stepS s r).1.w1 = s.w1 :=
  ⟨(keep (f := St.ac) (fun _ _ _ => by unfold setO; split <;> first | rfl | omega) (by unfold blankS; split <;> first | rfl | omega) (fun _ => rfl) (by unfold setP; split <;> first | rfl | omega) (fun _ _ => rfl) rfl (fun _ => rfl) (fun h => absurd h hk)).trans ha, keep (f := St.r1) (fun _ _ _ => by unfold setO; split <;> first | rfl | omega) (by unfold blankS; split <;> first | rfl | omega) (fun _ => rfl) (by unfold setP; split <;> first | rfl | omega) (fun _ _ => rfl) rfl (fun _ => rfl) (fun h => absurd h hk), keep (f := St.w1) (fun _ _ _ => by unfold setO; split <;> first | rfl | omega) (by unfold blankS; split <;> first | rfl | omega) (fun _ => rfl) (by unfold setP; split <;> first | rfl | omega) (fun _ _ => rfl) rfl (fun _ => rfl) (fun h => absurd h hk)⟩
theorem deployed {s : St} {r : Rc} (hk : r.kind = 1) (h : (stepS s r).2 = true) : (stepS s r).1 = { setO s r.rev r.cnt false with dl := r.delay, ph := 1 } := by
  have hr := ok_right h
  have e : stepS s r = step1 s r := by rw [step_of hr]; simp [hk]
  rw [e] at h ⊢
  unfold step1 at h ⊢
  split
  · rename_i h1; rw [if_pos h1] at h; cases h
  · rename_i h1
    rw [if_neg h1] at h
    split
    · rename_i h2; rw [if_pos h2] at h; cases h
    · rfl
theorem deploy_back {s : St} {r : Rc} (hk : r.kind = 1) (h : (stepS s r).2 = true) : stepS (stepS s r).1 ⟨2, 0, 0, 0, 0, 0, false, zeroS⟩ = ({ blankS s with dl := r.delay }, true) := by
  have hr := right_step r (ok_right h)
  rw [step_of hr, deployed hk h]
  simp only [Int.reduceEq, reduceIte]
  unfold step2
  rw [if_pos (Or.inl rfl)]
  unfold blankS setO
  by_cases ha : s.ac = 0
  · simp [ha]
  · simp [ha]
/-- Which phase may come behind which. -/
def nextP (p q : Int) : Prop := (p = 0 ∧ q = 1) ∨ (p = 1 ∧ (q = 0 ∨ q = 1 ∨ q = 2)) ∨ (p = 2 ∧ (q = 0 ∨ q = 1 ∨ q = 3)) ∨ (p = 3 ∧ (q = 0 ∨ q = 3 ∨ q = 4)) ∨ (p = 4 ∧ (q = 5 ∨ q = 6)) ∨ (p = 5 ∧ (q = 0 ∨ q = 6)) ∨ (p = 6 ∧ (q = 6 ∨ q = 7)) ∨ (p = 7 ∧ q = 0)
theorem blank_ph (s : St) : (blankS s).ph = 0 := by unfold blankS; split <;> rfl
set_option maxHeartbeats 4000000 in
theorem phases {s : St} {r : Rc} (h : (stepS s r).2 = true) : nextP s.ph (stepS s r).1.ph := by
  have hr := ok_right h
  have h7 := (right_in hr).2
  have hsw : s.sw = 0 ∨ s.ph = 3 ∨ s.ph = 6 := by
    have h := hr
    unfold rightS at h
    split at h
    · have := of_decide_eq_true h; unfold RightX at this; omega
    · split at h
      · have := of_decide_eq_true h; unfold RightX at this; omega
      · cases h
  rw [step_of hr] at h ⊢
  have B : s.ph = 1 ∨ s.ph = 2 ∨ s.ph = 3 ∨ s.ph = 5 ∨ s.ph = 7 → nextP s.ph (blankS s).ph := fun h => by rw [blank_ph]; unfold nextP; omega
  by_cases k1 : r.kind = 1
  · rw [if_pos k1] at h ⊢
    unfold step1 at h ⊢
    by_cases h1 : s.ph ≠ 0 ∧ s.ph ≠ 1 ∧ s.ph ≠ 2
    · rw [if_pos h1] at h; cases h
    · rw [if_neg h1] at h ⊢
      split
      · rename_i h2; rw [if_pos h2] at h; cases h
      · show nextP s.ph 1
        unfold nextP; omega
  rw [if_neg k1] at h ⊢
  by_cases k2 : r.kind = 2
  · rw [if_pos k2] at h ⊢
    unfold step2 at h ⊢
    by_cases h1 : s.ph = 1 ∨ s.ph = 2 ∨ s.ph = 3 ∧ s.sw = 0
    · rw [if_pos h1]; exact B (by omega)
    · rw [if_neg h1] at h ⊢
      obtain ⟨p1, p2⟩ := pick_ok h
      rw [p2]
      show nextP s.ph 6
      unfold nextP; omega
  rw [if_neg k2] at h ⊢
  by_cases k3 : r.kind = 3
  · rw [if_pos k3] at h ⊢
    unfold step3 at h ⊢
    obtain ⟨p1, p2⟩ := pick_ok h
    rw [p2]
    show nextP s.ph 2
    unfold nextP; omega
  rw [if_neg k3] at h ⊢
  by_cases k4 : r.kind = 4
  · rw [if_pos k4] at h ⊢
    unfold step4 at h ⊢
    by_cases h1 : s.ph = 2 ∧ r.pass = false
    · rw [if_pos h1]; exact B (by omega)
    · rw [if_neg h1] at h ⊢
      obtain ⟨p1, p2⟩ := pick_ok h
      rw [p2]
      show nextP s.ph 3
      unfold nextP; omega
  rw [if_neg k4] at h ⊢
  by_cases k5 : r.kind = 5
  · rw [if_pos k5] at h ⊢
    unfold step5 at h ⊢
    obtain ⟨p1, p2⟩ := pick_ok h
    rw [p2]
    show nextP s.ph s.ph
    unfold nextP; omega
  rw [if_neg k5] at h ⊢
  by_cases k6 : r.kind = 6
  · rw [if_pos k6] at h ⊢
    unfold step6 at h ⊢
    obtain ⟨p1, p2⟩ := pick_ok h
    rw [p2]
    show nextP s.ph s.ph
    unfold nextP; omega
  rw [if_neg k6] at h ⊢
  by_cases k7 : r.kind = 7
  · rw [if_pos k7] at h ⊢
    unfold step7 at h ⊢
    obtain ⟨p1, p2⟩ := pick_ok h
    rw [p2]
    show nextP s.ph s.ph
    unfold nextP; omega
  rw [if_neg k7] at h ⊢
  by_cases k8 : r.kind = 8
  · rw [if_pos k8] at h ⊢
    unfold step8 at h ⊢
    obtain ⟨p1, p2⟩ := pick_ok h
    rw [p2]
    show nextP s.ph (if s.ph = 3 then 4 else 7)
    unfold nextP
    by_cases h3 : s.ph = 3
    · rw [if_pos h3]; omega
    · rw [if_neg h3]; omega
  rw [if_neg k8] at h ⊢
  by_cases k9 : r.kind = 9
  · rw [if_pos k9] at h ⊢
    unfold step9 at h ⊢
    obtain ⟨p1, p2⟩ := pick_ok h
    rw [p2]
    show nextP s.ph (if r.pass = true then 5 else 6)
    unfold nextP
    cases r.pass
    · rw [if_neg (by decide)]; omega
    · rw [if_pos rfl]; omega
  rw [if_neg k9] at h ⊢
  by_cases k10 : r.kind = 10
  · rw [if_pos k10] at h ⊢
    unfold step10 at h ⊢
    obtain ⟨p1, p2⟩ := pick_ok h
    rw [p2]
    exact B (by omega)
  rw [if_neg k10] at h
  cases h
end Go.Proofs.Ytoeelglmdnhknaa
