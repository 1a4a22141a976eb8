/-
  The document's own router in memory: Call, all ways joined.
-/
import Derived.Test.YtjalmfomeehpgaaRouB
namespace Go.Proofs.Ytjalmfomeehpgaa
open Go.RowKit

/-- A fuse as it comes to be. -/
structure Fine (f : Fu) : Prop where
  left : f.armed = true → 0 ≤ f.left ∧ f.left ≤ 9223372036854775807
  blown : f.blown = true → f.armed = true ∧ f.left = 0
  count : 0 ≤ f.count ∧ f.count < 1000000
def bears (f : Fu) : Bool := !(f.armed && f.left == 0)
def spent (f : Fu) : Fu := if bears f = true then ⟨f.armed, if f.armed then f.left - 1 else f.left, f.blown, f.count + 1⟩ else ⟨f.armed, f.left, true, f.count⟩
theorem mspend_any (g : Nat) (f : Fu) (w : World) (hf : Fine f) (h : Fz w g 27 f) : Calls Try.prog 29 #[.pointer (some ⟨g, 0, none⟩)] w fun e w' => e = .returned (.bool (bears f)) ∧ Fz w' g 27 (spent f) ∧ Only g w w' := by
  obtain ⟨a, l, bl, c⟩ := f
  obtain ⟨h1, h2, h3⟩ := hf
  simp only at h1 h2 h3
  cases a with
  | false =>
    have hb : bl = false := by
      cases bl
      · rfl
      · exact absurd (h2 rfl).1 (by decide)
    subst hb
    exact mspend_free g l c w h3.1 h3.2 h
  | true =>
    by_cases hl : l = 0
    · subst hl
      exact mspend_no g bl c w h
    · have hb : bl = false := by
        cases bl
        · rfl
        · exact absurd (h2 rfl).2 hl
      subst hb
      have e : bears ⟨true, l, false, c⟩ = true := by simp [bears, hl]
      have h4 := mspend_some g l c w (by have := h1 rfl; omega) (h1 rfl).2 h3.1 h3.2 h
      unfold spent
      rw [e, if_pos rfl]
      exact h4
/-- What a call tells, and leaves of the router and of its fuse. -/
instance (gen slot : Int) : Decidable (inRange gen slot) := by unfold inRange; infer_instance
def toldC (s : Ro) (f : Fu) (gen slot : Int) : Int := if inRange gen slot then (if bears f = true then callE s gen slot else 2) else 1
def leftC (s : Ro) (f : Fu) (gen slot : Int) : Ro := if inRange gen slot then (if bears f = true then callS s gen slot else s) else s
def fuseC (f : Fu) (gen slot : Int) : Fu := if inRange gen slot then spent f else f
theorem mcall_any (b g : Nat) (s : Ro) (f : Fu) (gen slot : Int) (v : Value) (w : World) (h : RoM w b g v s) (hz : Fz w g 27 f) (hbg : b ≠ g) (hf : Fine f) (hwr : 0 ≤ s.writes ∧ s.writes ≤ 1000000) (hl : s.outs.length ≤ 100000) :
    Calls Try.prog 24 #[.pointer (some ⟨b, 0, none⟩), .int .i64 gen, .int .i64 slot] w fun e w' => e = .returned (.int .i64 (toldC s f gen slot)) ∧ (∃ v', RoM w' b g v' (leftC s f gen slot) ∧ New w v v') ∧ Fz w' g 27 (fuseC f gen slot) ∧ But b g w w' := by
  unfold toldC leftC fuseC
  by_cases hr : inRange gen slot
  · rw [if_pos hr, if_pos hr, if_pos hr]
    have hsp := fun W => mspend_any g f W hf
    cases hb : bears f with
    | false =>
      rw [hb] at hsp
      rw [if_neg (by decide), if_neg (by decide)]
      exact mcall_halt b g s f (spent f) gen slot v w h hz hbg hr hsp
    | true =>
      rw [hb] at hsp
      rw [if_pos rfl, if_pos rfl]
      cases ho : s.outs with
      | nil => exact mcall_nil b g s f (spent f) gen slot v w h hz hbg hr hsp hwr ho
      | cons x xs => exact mcall_cons b g s f (spent f) gen slot v w h hz hbg hr hsp hwr x xs ho (by rw [ho] at hl; simp at hl; omega)
  · rw [if_neg hr, if_neg hr, if_neg hr]
    exact (mcall_range b gen slot w hr).mono fun e w' ⟨he, hw⟩ => by
      subst hw
      exact ⟨he, ⟨v, h, fun _ h => .inl h⟩, hz, But.refl _ _ _⟩
end Go.Proofs.Ytjalmfomeehpgaa
