/-
  What the document's own within answers: are a Kind's fields in their ranges?
-/
import Derived.Test.YthombepmlepgfaaDoorMref
namespace Go.Proofs.YthombepmlepgfaaDoor
open Go.RowKit

/-- Are these the numbers of fields in their ranges? -/
def insideL (fs : List Nat) (xs : List Int) : Bool := (fs.zip xs).all fun p => decide (at_ los p.1 ≤ p.2) && decide (p.2 ≤ at_ his p.1)
theorem insideL_map (l : List Int) : ∀ fs : List Nat, insideL fs (fs.map (at_ l)) = inside l fs
  | [] => rfl
  | f :: fs => by
    have h := insideL_map l fs
    unfold insideL inside at h ⊢
    rw [List.map_cons, List.zip_cons_cons, List.all_cons, List.all_cons, h]
    rfl
theorem insideL_no {fs : List Nat} {xs : List Int} (k : Nat) (h : k < fs.length) (h2 : k < xs.length) (hx : ¬ (at_ los fs[k] ≤ xs[k] ∧ xs[k] ≤ at_ his fs[k])) : insideL fs xs = false := by
  unfold insideL
  rw [List.all_eq_false]
  refine ⟨(fs[k], xs[k]), ?_, ?_⟩
  · have := List.getElem_mem (l := fs.zip xs) (n := k) (by simp; omega)
    rwa [List.getElem_zip] at this
  · simp; omega
theorem insideL_yes {fs : List Nat} {xs : List Int} (h : ∀ k (h1 : k < fs.length) (h2 : k < xs.length), at_ los fs[k] ≤ xs[k] ∧ xs[k] ≤ at_ his fs[k]) : insideL fs xs = true := by
  unfold insideL
  rw [List.all_eq_true]
  intro p hp
  obtain ⟨k, hk, rfl⟩ := List.getElem_of_mem hp
  rw [List.getElem_zip]
  have := h k (by simp at hk; omega) (by simp at hk; omega)
  simp; omega
theorem mosts_at (fs : List Nat) (k : Nat) (h : k < fs.length) : (ints (mosts fs))[k]? = some (.int .i64 (at_ his fs[k])) := by
  simp [ints, mosts, h]

set_option maxRecDepth 100000 in
set_option maxHeartbeats 4000000 in
theorem mwithin_any (kd : Int) (fs : List Nat) (xs : List Int) (v : Value) (w : World) (hk : kindF kd = some fs) (hl : xs.length = fs.length) (hv : Vals w v (ints xs)) :
    Calls Tryd.prog 23 #[.int .i64 kd, v] w fun e w' => e = .returned (.bool (insideL fs xs)) ∧ Below w.heap.size w w' := by
  have hA : ∃ A c, v = .slice A fs.length c := by
    obtain ⟨A, c, h⟩ := hv.slice
    exact ⟨A, c, by rw [h, ints_len, hl]⟩
  obtain ⟨A, c, rfl⟩ := hA
  have hn : fs.length ≤ 12 := (kind_lt hk).1
  have HV := Lib.hid hv
  have HL := Lib.hid hl
  have HK := Lib.hid hk
  have HM : Hid (∀ W, Calls Tryd.prog 20 #[.int .i64 kd] W (GotM W kd)) := Lib.hid (fun W => most_any kd W)
  have HLE : Hid (∀ i : Nat, i ≤ 12 → ∀ W, Calls Tryd.prog 30 #[.int .i64 kd, .int .i64 (i : Int)] W fun e w' => e = .returned (.int .i64 (leastI kd i)) ∧ w' = W) := Lib.hid (fun i hi W => least_any kd i W hi)
  clear hv hl hk
  go_enter Tryd.func23, Tryd.ntmps23
  go_wp2_with fail
  refine (HM.out _).mono ?_
  rintro e w1 ⟨u, rfl, hu, hb⟩
  rw [HK.out] at hu ⊢
  have HU : Hid (Vals w1 u (ints (mosts fs))) := Lib.hid hu
  have HB1 := Lib.hid hb
  obtain ⟨A2, c2, rfl⟩ : ∃ A c, u = .slice A fs.length c := by
    obtain ⟨A, c, h⟩ := HU.out.slice
    exact ⟨A, c, by rw [h, ints_len, mosts, List.length_map]⟩
  clear hu hb
  go_wp2
  go_loopg [7] fs.length (fun g i wr => ∃ k : Nat, Hid (g = fs.length - k) ∧ k ≤ fs.length ∧ i = .int .i64 k ∧ Hid (∀ j (h1 : j < fs.length) (h2 : j < xs.length), j < k → at_ los fs[j] ≤ xs[j] ∧ xs[j] ≤ at_ his fs[j]) ∧ Hid (Below w.heap.size w wr) ∧ Hid (Below w1.heap.size w1 wr))
  case atStart => exact ⟨0, Lib.hid rfl, Nat.zero_le _, rfl, Lib.hid (fun j _ _ h => by omega), HB1, Lib.hid (Below.refl _ _)⟩
  case round =>
    obtain ⟨k, HKK, hk, rfl, HP, HB, HBB⟩ := hrel
    by_cases hlt : k < fs.length
    · have hx2 : k < xs.length := by rw [HL.out]; exact hlt
      obtain ⟨b, off, c', hve, hcc, hb, hxx⟩ := HV.out.full (by rw [ints_len]; omega)
      obtain rfl : A = some ⟨b, off, none⟩ := by injection hve
      obtain ⟨b2, off2, c3, hve2, hcc2, hb2, hxx2⟩ := HU.out.full (by rw [ints_len, mosts, List.length_map]; omega)
      obtain rfl : A2 = some ⟨b2, off2, none⟩ := by injection hve2
      obtain ⟨x, hx⟩ : ∃ x, x = xs[k] := ⟨_, rfl⟩
      obtain ⟨lo, hlo⟩ : ∃ x, x = leastI kd k := ⟨_, rfl⟩
      obtain ⟨hi, hhi⟩ : ∃ x, x = at_ his fs[k] := ⟨_, rfl⟩
      have cj : wr.cell? ⟨b, off + k, none⟩ = some (.int .i64 x) := by
        rw [hx]
        exact (HB.out.cell (p := ⟨b, off + k, none⟩) hb).trans (hxx k _ (ints_at xs k hx2))
      have ch : wr.cell? ⟨b2, off2 + k, none⟩ = some (.int .i64 hi) := by
        rw [hhi]
        exact (HBB.out.cell (p := ⟨b2, off2 + k, none⟩) hb2).trans (hxx2 k _ (mosts_at fs k hlt))
      have HLK : Hid (∀ W, Calls Tryd.prog 30 #[.int .i64 kd, .int .i64 (k : Int)] W fun e w' => e = .returned (.int .i64 lo) ∧ w' = W) := Lib.hid (by rw [hlo]; exact HLE.out k (by omega))
      have HLO : Hid (lo = at_ los fs[k]) := Lib.hid (by rw [hlo, least_lo HK.out k hlt])
      have HHI := Lib.hid hhi
      have HX := Lib.hid hx
      clear hve hcc hxx hve2 hcc2 hxx2 hx hlo hhi
      by_cases h1 : x < lo
      · have HE : Hid (insideL fs xs = false) := Lib.hid (insideL_no k hlt hx2 (by rw [← HLO.out, ← HX.out]; omega))
        have e1 : decide (x < lo) = true := by simpa using h1
        go_wp2_with fail
        go_quiet (first | (go_at_call 30; exact Calls.quiet_of_same (HLK.out _)))
        go_wp2
        go_ret
        exact ⟨by rw [HE.out]; rfl, HB.out.trans (below_drewN _ _ _)⟩
      · have e1 : decide (x < lo) = false := by simpa using h1
        by_cases h2 : hi < x
        · have HE : Hid (insideL fs xs = false) := Lib.hid (insideL_no k hlt hx2 (by rw [← HHI.out, ← HX.out]; omega))
          have e2 : decide (hi < x) = true := by simpa using h2
          go_wp2_with fail
          go_quiet (first | (go_at_call 30; exact Calls.quiet_of_same (HLK.out _)))
          go_wp2
          go_ret
          exact ⟨by rw [HE.out]; rfl, HB.out.trans (below_drewN _ _ _)⟩
        · have e2 : decide (hi < x) = false := by simpa using h2
          have HE : Hid (at_ los fs[k] ≤ xs[k] ∧ xs[k] ≤ at_ his fs[k]) := Lib.hid (by rw [← HLO.out, ← HHI.out, ← HX.out]; omega)
          go_wp2_with fail
          go_quiet (first | (go_at_call 30; exact Calls.quiet_of_same (HLK.out _)))
          go_wp2
          go_roundg (fs.length - (k + 1))
          case measure => have := HKK.out; omega
          case rel =>
            refine ⟨k + 1, Lib.hid rfl, by omega, by go_num, Lib.hid (fun j h1 h2 h => ?_), Lib.hid (HB.out.trans (below_drewN _ _ _)), Lib.hid (HBB.out.trans (below_drewN _ _ _))⟩
            rcases (by omega : j < k ∨ j = k) with h | rfl
            · exact HP.out j h1 h2 h
            · exact HE.out
    · have HE : Hid (insideL fs xs = true) := Lib.hid (insideL_yes fun j h1 h2 => HP.out j h1 h2 (by omega))
      go_wp2
      go_ret
      exact ⟨by rw [HE.out]; rfl, HB.out⟩
end Go.Proofs.YthombepmlepgfaaDoor
