/-
  A Set that one call ends.
-/
import Derived.Test.YtjalmfomeehpgaaAwak
namespace Go.Proofs.Ytjalmfomeehpgaa
open Go.RowKit

theorem setJ1 {gen slot M : Int} {s : Ro} {f : Fu} (h : toldC s f gen slot ≠ 10) (hM : 1 ≤ M) : SetJ gen slot s f M 1 where
  pos := by omega
  le := hM
  ahead := fun i hi => by rw [Nat.lt_one_iff.1 hi]; rfl
  fin := .inl h
theorem pk_set1 (B b g n : Nat) (s : Ro) (f : Fu) (gen slot tries : Int) (w : World) (h : Pk w B b g s f) (hd : Bd n s f) (hn : n + 8 < 1000) (ht : toldC s f gen slot ≠ 10) :
    Calls Try.prog 10 #[.pointer (some ⟨b, 0, none⟩), .agg #[.int .i64 slot, .int .i64 gen], .int .i64 tries] w fun e w' => e = .returned (.tuple #[.int .i64 (toldC s f gen slot), .int .i64 1]) ∧ Pk w' B b g (leftC s f gen slot) (fuseC f gen slot) ∧ Turn B w w' :=
  pk_set_at B b g n s _ f _ gen slot tries _ 1 w h hd hn (setJ1 ht (triesC_in tries).1) rfl rfl
theorem no10 {s : Ro} {f : Fu} {gen slot : Int} (h : s.outs = []) : toldC s f gen slot ≠ 10 := by
  unfold toldC
  by_cases hr : inRange gen slot
  · rw [if_pos hr]
    by_cases hb : bears f = true
    · rw [if_pos hb]
      unfold callE
      have e : outS s = 0 := by unfold outS; rw [h]; rfl
      rw [e, if_neg (by omega), if_neg (by omega)]
      by_cases h3 : s.gen < gen
      · rw [if_pos h3]; omega
      · rw [if_neg h3]
        by_cases h4 : gen < s.gen ∨ slot ≠ s.slot
        · rw [if_pos h4]; omega
        · rw [if_neg h4]; omega
    · rw [if_neg hb]; omega
  · rw [if_neg hr]; omega
theorem c9 : toldC ⟨0, 0, [], 0⟩ (F 0) 9 1 = 0 ∧ leftC ⟨0, 0, [], 0⟩ (F 0) 9 1 = ⟨1, 9, [], 1⟩ ∧ fuseC (F 0) 9 1 = F 1 := ⟨by kernel_rfl, by kernel_rfl, by kernel_rfl⟩
theorem armed9 : (⟨true, max 0 0, false, (F 1).count⟩ : Fu) = ⟨true, 0, false, 1⟩ := by kernel_rfl
theorem bdA : Bd 5 ⟨1, 9, [], 1⟩ ⟨true, 0, false, 1⟩ := ⟨fun _ => by simp, fun h => (by cases h), by simp, by simp, by simp⟩
theorem bdN : Bd 5 ⟨1, 9, [], 1⟩ (F 1) := ⟨fun h => (by cases h), fun h => (by cases h), by simp [F], by simp, by simp⟩
theorem told9A {gen slot : Int} (h : inRange gen slot) : toldC ⟨1, 9, [], 1⟩ ⟨true, 0, false, 1⟩ gen slot = 2 ∧ leftC ⟨1, 9, [], 1⟩ ⟨true, 0, false, 1⟩ gen slot = ⟨1, 9, [], 1⟩ := by
  unfold toldC leftC
  rw [if_pos h, if_pos h]
  exact ⟨rfl, rfl⟩
theorem told9old {gen slot : Int} (h : inRange gen slot) (ho : gen < 9 ∨ gen = 9 ∧ slot = 0) : toldC ⟨1, 9, [], 1⟩ (F 1) gen slot = 11 ∧ ∀ sx, sx = leftC ⟨1, 9, [], 1⟩ (F 1) gen slot → sx.slot = 1 ∧ sx.gen = 9 := by
  obtain ⟨e1, e2, _⟩ := toldF (s := ⟨1, 9, [], 1⟩) (n := 1) h
  rw [e1, e2]
  unfold callE callS
  have e : outS ⟨1, 9, [], 1⟩ = 0 := rfl
  rw [e, if_neg (by omega), if_neg (by omega), if_neg (by show ¬ (9 : Int) < gen; omega), if_pos (by show gen < 9 ∨ slot ≠ 1; omega), if_neg (by omega), if_neg (by show ¬ (9 : Int) < gen; omega)]
  exact ⟨rfl, fun sx hs => by subst hs; exact ⟨rfl, rfl⟩⟩
theorem told9ok {gen slot : Int} (h : inRange gen slot) (ho : 9 < gen ∨ gen = 9 ∧ slot = 1) : toldC ⟨1, 9, [], 1⟩ (F 1) gen slot = 0 ∧ ∀ sx, sx = leftC ⟨1, 9, [], 1⟩ (F 1) gen slot → sx.slot = slot ∧ sx.gen = gen := by
  rcases ho with ho | ⟨rfl, rfl⟩
  · obtain ⟨e1, e2, _⟩ := toldF (s := ⟨1, 9, [], 1⟩) (n := 1) h
    rw [e1, e2]
    unfold callE callS
    have e : outS ⟨1, 9, [], 1⟩ = 0 := rfl
    rw [e, if_neg (by omega), if_neg (by omega), if_pos (by show (9 : Int) < gen; omega), if_neg (by omega), if_pos (by show (9 : Int) < gen; omega)]
    exact ⟨rfl, fun sx hs => by subst hs; exact ⟨rfl, rfl⟩⟩
  · exact ⟨by kernel_rfl, fun sx hs => by subst hs; exact ⟨by kernel_rfl, by kernel_rfl⟩⟩
end Go.Proofs.Ytjalmfomeehpgaa
