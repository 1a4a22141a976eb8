/-
  Is there more than is played? (great); acts that came in.
-/
import Derived.Test.YtooikkjgcpngdaaLift
namespace Go.Proofs.Ytooikkjgcpngdaa
open Go.ChangeShapes Go.WideShapes Go.ChangeAt Go.RowKit

/-- The acts xs that came in. -/
def ActsX (w : World) (v : Value) (xs : List Ac) : Prop := ∃ A c, v = .slice A xs.length c ∧ xs.length ≤ maxLen ∧ (0 < xs.length → ∃ b off, A = some ⟨b, off, none⟩ ∧ b < w.heap.size ∧ ∀ i (hi : i < xs.length), Lies w b (off + i * 4) xs[i])
theorem Acts.some {w : World} {v : Value} (h : Acts w v) : ∃ xs, ActsX w v xs := by
  rcases h with ⟨A, c, rfl⟩ | ⟨b, off, c, xs, rfl, h1, h2, h3, h4⟩
  · exact ⟨[], A, c, rfl, Nat.zero_le _, fun h => by simp at h⟩
  · exact ⟨xs, _, c, rfl, h1, fun _ => ⟨b, off, rfl, h3, h4⟩⟩
theorem ActsX.under {w w' : World} {v : Value} {xs : List Ac} {B : Nat} (h : ActsX w v xs) (hb : Below B w w') (hB : B = w.heap.size) : ActsX w' v xs := by
  obtain ⟨A, c, h1, h2, h3⟩ := h
  refine ⟨A, c, h1, h2, fun h0 => ?_⟩
  obtain ⟨b, off, e, hb0, hl⟩ := h3 h0
  exact ⟨b, off, e, Nat.lt_of_lt_of_le hb0 hb.size, fun i hi => (hl i hi).under hb (by omega)⟩
/-- The k-th act, in a world that is as it was below. -/
theorem ActsX.kth {w w' : World} {A : Option Addr} {c k : Nat} {xs : List Ac} (h : ActsX w (.slice A xs.length c) xs) (hb : Below w.heap.size w w') (hk : k < xs.length) : ∃ b off, A = some ⟨b, off, none⟩ ∧ b < w.heap.size ∧ Lies w' b (off + k * 4) xs[k] := by
  obtain ⟨A', c', h1, h2, h3⟩ := h
  obtain ⟨b, off, e, hb0, hl⟩ := h3 (by omega)
  injection h1 with h1
  subst h1
  exact ⟨b, off, e, hb0, (hl k hk).under hb hb0⟩

set_option maxRecDepth 100000 in
set_option maxHeartbeats 4000000 in
theorem great_long (a0 a1 : Int) (A : Option Addr) (c n : Nat) (w : World) (hl : n ≤ maxLen) (h : 40 < n) : Calls Try.prog 10 #[.agg #[.int .i64 a0, .int .i64 a1], .slice A n c] w fun e w' => e = .returned (.bool true) ∧ Below w.heap.size w w' := by
  unfold maxLen at hl
  have e1 : decide (40 < (n : Int)) = true := by simp; omega
  go_enter Try.func10, Try.ntmps10
  go_wp2
  go_ret
  exact ⟨rfl, (Below.refl _ _).alloc (Nat.le_refl _) _⟩
set_option maxRecDepth 100000 in
set_option maxHeartbeats 4000000 in
theorem great_wide (a0 a1 : Int) (A : Option Addr) (c n : Nat) (w : World) (h : n ≤ 40) (h2 : 24 < a1) : Calls Try.prog 10 #[.agg #[.int .i64 a0, .int .i64 a1], .slice A n c] w fun e w' => e = .returned (.bool true) ∧ Below w.heap.size w w' := by
  have e1 : decide (40 < (n : Int)) = false := by simp; omega
  have e2 : decide (24 < a1) = true := by simp; omega
  go_enter Try.func10, Try.ntmps10
  go_wp2
  go_ret
  exact ⟨rfl, (Below.refl _ _).alloc (Nat.le_refl _) _⟩
/-- Is a text too long? -/
def bigB (xs : List Ac) : Bool := xs.any fun x => decide (1200 < x.text.size)
theorem bigB_at {xs : List Ac} (k : Nat) (hk : k < xs.length) (h : 1200 < xs[k].text.size) : bigB xs = true := by
  unfold bigB
  rw [List.any_eq_true]
  exact ⟨xs[k], List.getElem_mem hk, by simpa using h⟩
theorem bigB_no {xs : List Ac} (h : ∀ k (hk : k < xs.length), xs[k].text.size ≤ 1200) : bigB xs = false := by
  unfold bigB
  rw [List.any_eq_false]
  intro x hx
  obtain ⟨k, hk, rfl⟩ := List.getElem_of_mem hx
  simpa using h k hk
theorem bigB_is {xs : List Ac} (h : bigB xs = false) (k : Nat) (hk : k < xs.length) : xs[k].text.size ≤ 1200 := by
  unfold bigB at h
  rw [List.any_eq_false] at h
  simpa using h xs[k] (List.getElem_mem hk)
set_option maxRecDepth 100000 in
set_option maxHeartbeats 4000000 in
theorem great_rest (a0 a1 : Int) (A : Option Addr) (c : Nat) (xs : List Ac) (w : World) (hx : ActsX w (.slice A xs.length c) xs) (h : xs.length ≤ 40) (h2 : a1 ≤ 24) : Calls Try.prog 10 #[.agg #[.int .i64 a0, .int .i64 a1], .slice A xs.length c] w fun e w' => e = .returned (.bool (bigB xs)) ∧ Below w.heap.size w w' := by
  have e1 : decide (40 < (xs.length : Int)) = false := by simp; omega
  have e2 : decide (24 < a1) = false := by simp; omega
  have HX := Lib.hid hx
  clear hx
  go_enter Try.func10, Try.ntmps10
  go_wp2
  go_loopg [17] xs.length (fun g i wr => ∃ k : Nat, Hid (g = xs.length - k) ∧ k ≤ xs.length ∧ i = .int .i64 (k : Int) ∧ Hid (∀ j (hj : j < xs.length), j < k → xs[j].text.size ≤ 1200) ∧ Hid (Below w.heap.size w wr))
  case atStart => exact ⟨0, Lib.hid rfl, Nat.zero_le _, rfl, Lib.hid (fun j _ h => by omega), Lib.hid ((Below.refl _ _).alloc (Nat.le_refl _) _)⟩
  case round =>
    obtain ⟨k, HG, hk, rfl, HT, HBL⟩ := hrel
    by_cases hlt : k < xs.length
    · obtain ⟨b, off, rfl, hb, hL⟩ := HX.out.kth HBL.out hlt
      obtain ⟨⟨kd, tx, nn, kp⟩, hA⟩ : ∃ A, A = xs[k] := ⟨_, rfl⟩
      have HA := Lib.hid hA
      rw [← hA] at hL
      obtain ⟨k0, k1, k2, k3, b1, b2, b3⟩ := hL
      simp only at k0 k1 k2 k3 b1 b2 b3
      unfold maxLen at b3
      clear hA
      by_cases hbig : 1200 < tx.size
      · have e3 : decide (1200 < (tx.size : Int)) = true := by simp; omega
        have HE := Lib.hid (bigB_at k hlt (by rw [← HA.out]; exact hbig))
        go_wp2
        go_ret
        exact ⟨by rw [HE.out]; rfl, HBL.out.alloc HBL.out.size _⟩
      · have e3 : decide (1200 < (tx.size : Int)) = false := by simp; omega
        go_wp2
        go_roundg (xs.length - (k + 1))
        case measure => have := HG.out; omega
        case rel =>
          refine ⟨k + 1, Lib.hid rfl, by omega, by go_num, Lib.hid (fun j hj h => ?_), Lib.hid (HBL.out.alloc HBL.out.size _)⟩
          rcases (by omega : j < k ∨ j = k) with h | rfl
          · exact HT.out j hj h
          · rw [← HA.out]; show tx.size ≤ 1200; omega
    · obtain rfl : k = xs.length := by omega
      have HE := Lib.hid (bigB_no fun j hj => HT.out j hj hj)
      go_wp2
      go_ret
      exact ⟨by rw [HE.out]; rfl, HBL.out⟩
/-- Is there more than is played? -/
def greatB (a1 : Int) (xs : List Ac) : Bool := decide (40 < xs.length) || decide (24 < a1) || bigB xs
theorem great_any (a0 a1 : Int) (v : Value) (xs : List Ac) (w : World) (hx : ActsX w v xs) : Calls Try.prog 10 #[.agg #[.int .i64 a0, .int .i64 a1], v] w fun e w' => e = .returned (.bool (greatB a1 xs)) ∧ Below w.heap.size w w' := by
  have hx' := hx
  obtain ⟨A, c, rfl, hl, _⟩ := hx'
  unfold greatB
  by_cases h1 : 40 < xs.length
  · rw [decide_eq_true h1]
    exact great_long a0 a1 A c _ w hl h1
  by_cases h2 : 24 < a1
  · rw [decide_eq_false h1, decide_eq_true h2]
    exact great_wide a0 a1 A c _ w (by omega) h2
  · rw [decide_eq_false h1, decide_eq_false h2, Bool.false_or, Bool.false_or]
    exact great_rest a0 a1 A c xs w hx (by omega) (by omega)
theorem great_no {a1 : Int} {xs : List Ac} (h : greatB a1 xs = false) : xs.length ≤ 40 ∧ a1 ≤ 24 ∧ bigB xs = false := by
  unfold greatB at h
  simp only [Bool.or_eq_false_iff, decide_eq_false_iff_not] at h
  exact ⟨by omega, by omega, h.2⟩
end Go.Proofs.Ytooikkjgcpngdaa
