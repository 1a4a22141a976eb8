/-
  ClientTries: what comes of outcomes that are not told.
-/
import Derived.Test.YtjalmfomeehpgaaLift
import Derived.Test.YtjalmfomeehpgaaCli1
import Derived.Test.YtjalmfomeehpgaaCliC
namespace Go.Proofs.Ytjalmfomeehpgaa.clientTries
open Go.Proofs.Ytjalmfomeehpgaa
open Go.RowKit
set_option linter.unusedVariables false

/-- The k-th number, in a world that is as it was below. -/
theorem kthI {w w' : World} {A : Option Addr} {c k : Nat} {xs : List Int} (h : IntsI w (.slice A xs.length c) xs) (hb : Below w.heap.size w w') (hk : k < xs.length) : ∃ B o, A = some ⟨B, o, none⟩ ∧ xs.length ≤ c ∧ w'.cell? ⟨B, o + k, none⟩ = some (.int .i64 (xs.getD k 0)) := by
  rcases h with ⟨_, rfl⟩ | ⟨B, o, c', h1, h2, h3, h4, h5⟩
  · simp at hk
  · injection h1 with h1 _ h6
    subst h6
    refine ⟨B, o, h1, h3, ?_⟩
    rw [show xs.getD k 0 = xs[k] from by simp [hk]]
    exact (hb.cell (p := ⟨B, o + k, none⟩) h4).trans (h5 k hk)
/-- Was one of the first k outcomes lost? -/
def lostK (xs : List Int) : Nat → Bool
  | 0 => false
  | k + 1 => lostK xs k || (xs.getD k 0 == 1)
/-- And within the tries? -/
def setK (M : Int) (xs : List Int) : Nat → Bool
  | 0 => false
  | k + 1 => setK M xs k || ((xs.getD k 0 == 1) && decide ((k : Int) < M))
theorem set_lost {M : Int} {xs : List Int} : ∀ k : Nat, (k : Int) ≤ M → setK M xs k = lostK xs k
  | 0, _ => rfl
  | k + 1, h => by
    have e : decide ((k : Int) < M) = true := by simp; omega
    unfold setK lostK
    rw [set_lost k (by omega), e, Bool.and_true]
theorem set_past {M : Int} {xs : List Int} {n : Nat} (hn : M = n) : ∀ d : Nat, setK M xs (n + d) = lostK xs n
  | 0 => set_lost n (by omega)
  | d + 1 => by
    have e : decide (((n + d : Nat) : Int) < M) = false := by simp; omega
    show (setK M xs (n + d) || ((xs.getD (n + d) 0 == 1) && decide (((n + d : Nat) : Int) < M))) = _
    rw [set_past hn d, e, Bool.and_false, Bool.or_false]
theorem drop_head (xs : List Int) (i : Nat) : (xs.drop i).headD 0 = xs.getD i 0 := by
  rw [List.headD_eq_head?_getD, List.head?_drop, List.getD_eq_getElem?_getD]
/-- The route behind k calls that weren't told. -/
def ro (gen slot : Int) (xs : List Int) (k : Nat) : Ro := if lostK xs k = true then ⟨slot, gen, xs.drop k, 1⟩ else ⟨0, 0, xs.drop k, 0⟩
theorem ro_outs (gen slot : Int) (xs : List Int) (k : Nat) : outS (ro gen slot xs k) = xs.getD k 0 := by
  unfold ro outS
  by_cases h : lostK xs k = true
  · rw [if_pos h]; exact drop_head xs k
  · rw [if_neg h]; exact drop_head xs k
theorem step_bad {gen slot : Int} {xs : List Int} {k : Nat} (hr : inRange gen slot) (h : xs.getD k 0 = 1 ∨ xs.getD k 0 = 2) : callE (ro gen slot xs k) gen slot = 10 ∧ callS (ro gen slot xs k) gen slot = ro gen slot xs (k + 1) := by
  have h1 : 1 ≤ gen := by unfold inRange at hr; omega
  unfold callE callS
  rw [ro_outs]
  have hd : (xs.drop k).tail = xs.drop (k + 1) := by simp
  rcases h with h | h
  · rw [h, if_neg (by omega), if_pos rfl, if_neg (by omega)]
    refine ⟨rfl, ?_⟩
    have e : lostK xs (k + 1) = true := by unfold lostK; rw [h]; simp
    unfold ro
    rw [if_pos e]
    by_cases h2 : lostK xs k = true
    · rw [if_pos h2, if_neg (by show ¬ gen < gen; omega)]
      simp only [hd]
    · rw [if_neg h2, if_pos (by show (0 : Int) < gen; omega)]
      simp only [hd]
      rfl
  · rw [h, if_pos rfl, if_pos rfl]
    refine ⟨rfl, ?_⟩
    have e : lostK xs (k + 1) = lostK xs k := by
      show (lostK xs k || (xs.getD k 0 == 1)) = _
      rw [h]; simp
    unfold ro
    rw [e]
    by_cases h2 : lostK xs k = true
    · rw [if_pos h2, if_pos h2]
      show (⟨slot, gen, (xs.drop k).tail, 1⟩ : Ro) = _
      rw [hd]
    · rw [if_neg h2, if_neg h2]
      show (⟨0, 0, (xs.drop k).tail, 0⟩ : Ro) = _
      rw [hd]
theorem step_good {gen slot : Int} {xs : List Int} {k : Nat} (hr : inRange gen slot) (h1 : xs.getD k 0 ≠ 1) (h2 : xs.getD k 0 ≠ 2) : callE (ro gen slot xs k) gen slot = 0 ∧ (callS (ro gen slot xs k) gen slot).slot = slot ∧ (callS (ro gen slot xs k) gen slot).gen = gen ∧ (callS (ro gen slot xs k) gen slot).writes = 1 := by
  have hg : 1 ≤ gen := by unfold inRange at hr; omega
  unfold callE callS
  rw [ro_outs, if_neg h2, if_neg h1, if_neg h2]
  unfold ro
  by_cases h3 : lostK xs k = true
  · rw [if_pos h3, if_neg (by show ¬ gen < gen; omega), if_neg (by show ¬ (gen < gen ∨ slot ≠ slot); omega), if_neg (by show ¬ gen < gen; omega)]
    exact ⟨rfl, rfl, rfl, rfl⟩
  · rw [if_neg h3, if_pos (by show (0 : Int) < gen; omega), if_pos (by show (0 : Int) < gen; omega)]
    exact ⟨rfl, rfl, rfl, rfl⟩
theorem st_bad {gen slot : Int} {xs : List Int} (hr : inRange gen slot) : ∀ k : Nat, (∀ i, i < k → xs.getD i 0 = 1 ∨ xs.getD i 0 = 2) → st gen slot ⟨0, 0, xs, 0⟩ (F 0) k = (ro gen slot xs k, F k) ∧ ∀ i, i ≤ k → last gen slot ⟨0, 0, xs, 0⟩ (F 0) i = 10
  | 0, _ => ⟨rfl, fun i hi => by rw [Nat.le_zero.1 hi]; rfl⟩
  | k + 1, h => by
    obtain ⟨a1, a2⟩ := st_bad hr k (fun i hi => h i (by omega))
    obtain ⟨b1, b2⟩ := step_bad hr (h k (by omega))
    obtain ⟨c1, c2, c3⟩ := toldF (s := ro gen slot xs k) (n := k) hr
    refine ⟨?_, fun i hi => ?_⟩
    · show (leftC (st gen slot ⟨0, 0, xs, 0⟩ (F 0) k).1 (st gen slot ⟨0, 0, xs, 0⟩ (F 0) k).2 gen slot, fuseC (st gen slot ⟨0, 0, xs, 0⟩ (F 0) k).2 gen slot) = _
      rw [a1, c2, c3, b2]
      push_cast
      rfl
    · rcases Nat.lt_or_ge i (k + 1) with hl | hg
      · exact a2 i (by omega)
      · obtain rfl : i = k + 1 := by omega
        show toldC (st gen slot ⟨0, 0, xs, 0⟩ (F 0) k).1 (st gen slot ⟨0, 0, xs, 0⟩ (F 0) k).2 gen slot = 10
        rw [a1, c1, b1]
theorem tries_lt {gen slot M : Int} {xs : List Int} {k : Nat} (hr : inRange gen slot) (hb : ∀ i, i < k → xs.getD i 0 = 1 ∨ xs.getD i 0 = 2) (h1 : xs.getD k 0 ≠ 1) (h2 : xs.getD k 0 ≠ 2) (hk : (k : Int) < M) :
    SetJ gen slot ⟨0, 0, xs, 0⟩ (F 0) M (k + 1) ∧ last gen slot ⟨0, 0, xs, 0⟩ (F 0) (k + 1) = 0 ∧ (st gen slot ⟨0, 0, xs, 0⟩ (F 0) (k + 1)).1.slot = slot ∧ (st gen slot ⟨0, 0, xs, 0⟩ (F 0) (k + 1)).1.gen = gen ∧ (st gen slot ⟨0, 0, xs, 0⟩ (F 0) (k + 1)).1.writes = 1 := by
  obtain ⟨a1, a2⟩ := st_bad hr k hb
  obtain ⟨b1, b2, b3, b4⟩ := step_good hr h1 h2
  obtain ⟨c1, c2, c3⟩ := toldF (s := ro gen slot xs k) (n := k) hr
  have e0 : last gen slot ⟨0, 0, xs, 0⟩ (F 0) (k + 1) = 0 := by
    show toldC (st gen slot ⟨0, 0, xs, 0⟩ (F 0) k).1 (st gen slot ⟨0, 0, xs, 0⟩ (F 0) k).2 gen slot = 0
    rw [a1, c1, b1]
  have e1 : (st gen slot ⟨0, 0, xs, 0⟩ (F 0) (k + 1)).1 = callS (ro gen slot xs k) gen slot := by
    show leftC (st gen slot ⟨0, 0, xs, 0⟩ (F 0) k).1 (st gen slot ⟨0, 0, xs, 0⟩ (F 0) k).2 gen slot = _
    rw [a1, c2]
  rw [e1]
  exact ⟨⟨by omega, by push_cast; omega, fun i hi => a2 i (by omega), .inl (by rw [e0]; omega)⟩, e0, b2, b3, b4⟩
theorem tries_ge {gen slot M : Int} {xs : List Int} {k n : Nat} (hr : inRange gen slot) (hb : ∀ i, i < k → xs.getD i 0 = 1 ∨ xs.getD i 0 = 2) (hM : M = n) (h1 : 1 ≤ n) (hk : n ≤ k) :
    SetJ gen slot ⟨0, 0, xs, 0⟩ (F 0) M n ∧ last gen slot ⟨0, 0, xs, 0⟩ (F 0) n = 10 ∧ (st gen slot ⟨0, 0, xs, 0⟩ (F 0) n).1 = ro gen slot xs n := by
  obtain ⟨a1, a2⟩ := st_bad hr n (fun i hi => hb i (by omega))
  exact ⟨⟨h1, by omega, fun i hi => a2 i (by omega), .inr hM.symm⟩, a2 n (Nat.le_refl _), by rw [a1]⟩
end Go.Proofs.Ytjalmfomeehpgaa.clientTries
