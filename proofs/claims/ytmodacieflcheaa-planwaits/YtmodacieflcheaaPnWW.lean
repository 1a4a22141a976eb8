/-
  switchback's PlanWaits: with nothing ready just what needs nothing ready is to be done, and in four phases nothing is. For every input the law returns true, and each argument reads afterwards as it read before. No condition beside the row's own.
-/
import Derived.Test.YtmodacieflcheaaLift
namespace Go.Proofs.Ytmodacieflcheaa.planWaits
open Go.Proofs.Ytmodacieflcheaa
open Go.ChangeShapes Go.WideShapes Go.ChangeAt Go.RowKit
set_option linter.unusedVariables false

theorem waits_x (ph sw gn dl ls : Int) : (ph = 0 ∨ ph = 1 ∨ ph = 2 ∨ ph = 4 → (nextX ph sw gn dl false ls).1 = 0) ∧ ((nextX ph sw gn dl false ls).1 = 0 ∨ (nextX ph sw gn dl false ls).1 = 4 ∨ (nextX ph sw gn dl false ls).1 = 5 ∨ (nextX ph sw gn dl false ls).1 = 6) := by
  unfold nextX
  (repeat' split) <;> simp_all <;> omega
theorem none_full (s : St) (w0 w1 slot : Int) (h0 : w0 = s.w0) (h1 : w1 = s.w1) : fullS s ⟨w0, w1, 0, 0⟩ slot = false := by
  subst h0 h1
  unfold fullS fullX
  split
  · by_cases h : 1 ≤ s.w0
    · rw [show ((0 : Int) == s.w0) = false from beq_eq_false_iff_ne.2 (by omega)]; simp
    · rw [decide_eq_false h]; rfl
  · split
    · by_cases h : 1 ≤ s.w1
      · rw [show ((0 : Int) == s.w1) = false from beq_eq_false_iff_ne.2 (by omega)]; simp
      · rw [decide_eq_false h]; rfl
    · rfl
set_option maxRecDepth 100000 in
set_option maxHeartbeats 8000000 in
theorem walk_c (hp : PkgPl) (ph ac r0 r1 w0 w1 dl gn sw fl now : Int) (p0 p1 : Bool) (w : World) (hs : FitsS ⟨ph, ac, r0, r1, w0, w1, p0, p1, dl, gn, sw, fl⟩) (hn : Fits now) : Calls Try.prog 7 #[stV ⟨ph, ac, r0, r1, w0, w1, p0, p1, dl, gn, sw, fl⟩, .int .i64 now] w (Holds w) := by
  have HAW : Hid (∀ W, Calls Try.prog 9 #[] W fun e w' => e = .returned (.bool true) ∧ Below W.heap.size W w') := Lib.hid (awake_any hp)
  obtain ⟨rt, hrt⟩ : ∃ b, b = rightS ⟨ph, ac, r0, r1, w0, w1, p0, p1, dl, gn, sw, fl⟩ := ⟨_, rfl⟩
  obtain ⟨x, hx⟩ : ∃ x, x = nextS ⟨ph, ac, r0, r1, w0, w1, p0, p1, dl, gn, sw, fl⟩ ⟨w0, w1, 0, 0⟩ now := ⟨_, rfl⟩
  have z0 : Fits 0 := by unfold Fits; decide
  have HMR : Hid (∀ W, Calls Try.prog 10 #[.agg (stC ⟨ph, ac, r0, r1, w0, w1, p0, p1, dl, gn, sw, fl⟩)] W fun e w' => e = .returned (.bool rt) ∧ Below W.heap.size W w') := Lib.hid (fun W => by rw [hrt]; exact mright_any ⟨ph, ac, r0, r1, w0, w1, p0, p1, dl, gn, sw, fl⟩ W)
  have HC0 : Hid (rt = true → ∀ W, Calls Try.prog 11 #[.agg (stC ⟨ph, ac, r0, r1, w0, w1, p0, p1, dl, gn, sw, fl⟩), .agg (vwC ⟨w0, w1, 0, 0⟩), .int .i64 now] W fun e w' => e = .returned (.tuple #[.int .i64 x.1, .agg (recC x.2)]) ∧ Below W.heap.size W w') := Lib.hid (fun h W => by rw [hx]; exact hp.next ⟨ph, ac, r0, r1, w0, w1, p0, p1, dl, gn, sw, fl⟩ ⟨w0, w1, 0, 0⟩ now W (by rw [← hrt]; exact h) ⟨hs.w0, hs.w1, z0, z0⟩ hn)
  have hw := waits_x ph sw gn dl (lessI now fl)
  rw [show nextX ph sw gn dl false (lessI now fl) = x from by rw [hx]; unfold nextS; rw [none_full ⟨ph, ac, r0, r1, w0, w1, p0, p1, dl, gn, sw, fl⟩ w0 w1 _ rfl rfl]] at hw
  obtain ⟨cs, hcs⟩ : ∃ c, c = stC ⟨ph, ac, r0, r1, w0, w1, p0, p1, dl, gn, sw, fl⟩ := ⟨_, rfl⟩
  have HE_cs := Lib.hid hcs
  have HZ_cs : Hid (cs.size = 12) := Lib.hid (by rw [hcs]; rfl)
  have H1_cs : Hid (cs.all (·.oneCell') = true) := Lib.hid (by rw [hcs]; exact stC_one _)
  obtain ⟨rc, hrc⟩ : ∃ c, c = recC x.2 := ⟨_, rfl⟩
  have HE_rc := Lib.hid hrc
  have HZ_rc : Hid (rc.size = 19) := Lib.hid (by rw [hrc]; rfl)
  have H1_rc : Hid (rc.all (·.oneCell') = true) := Lib.hid (by rw [hrc]; exact recC_one _)
  obtain ⟨a, ha⟩ : ∃ a, a = x.1 := ⟨_, rfl⟩
  rw [← ha] at hw HC0
  have HWX := Lib.hid hw
  rw [← hcs] at HMR HC0
  rw [← hrc] at HC0
  unfold stV
  rw [← hcs]
  clear hcs hrc ha hp hrt hx hn hs hw z0
  go_enter Try.func7, Try.ntmps7
  go_upto_region 1 with (fail)
  refine name_w (fun W => Rw W w.heap.size cs 25 ∧ Below w.heap.size w W) ⟨Rw.new _ _ _, (Below.refl _ _).alloc (Nat.le_refl _) _⟩ ?_
  rintro u0 ⟨h0, h1⟩
  have R_A_0 := Lib.hid h0
  have BT0 := Lib.hid h1
  clear h0 h1
  go_wp2_with fail
  refine (HAW.out _).mono ?_
  rintro e u1 ⟨rfl, hb⟩
  have R_A_1 := Lib.hid (R_A_0.out.under hb R_A_0.out.lt)
  have BT1 := Lib.hid (BT0.out.trans (hb.mono BT0.out.size))
  clear hb BT0 R_A_0
  go_wp2_with (first | (refine wpList_load_any (by rfl) 25 (.tmp 2) rfl w.heap.size rfl 25 cs (0, 0) _ R_A_1.out Try.underlying25 rfl (by rw [HZ_cs.out]; exact i12) ?_))
  refine (HMR.out _).mono ?_
  rintro e u2 ⟨rfl, hb⟩
  have R_A_2 := Lib.hid (R_A_1.out.under hb R_A_1.out.lt)
  have BT2 := Lib.hid (BT1.out.trans (hb.mono BT1.out.size))
  clear hb BT1 R_A_1
  clear HMR
  cases rt with
  | false =>
    clear HC0
    go_wp2_with fail
    refine (HAW.out _).mono ?_
    rintro e u3 ⟨rfl, hb⟩
    have R_A_3 := Lib.hid (R_A_2.out.under hb R_A_2.out.lt)
    have BT3 := Lib.hid (BT2.out.trans (hb.mono BT2.out.size))
    clear hb BT2 R_A_2
    go_wp2_with fail
    go_ret
    exact ⟨rfl, BT3.out⟩
  | true =>
    have HD0 := Lib.hid (HC0.out rfl)
    clear HC0
    have m4 : u2.cell? ⟨w.heap.size, 4, none⟩ = some (.int .i64 w0) := by rw [R_A_2.out.cell 4, HE_cs.out]; rfl
    have m5 : u2.cell? ⟨w.heap.size, 5, none⟩ = some (.int .i64 w1) := by rw [R_A_2.out.cell 5, HE_cs.out]; rfl
    go_wp2_with (first | (refine wpList_load_any (by rfl) 25 (.tmp 2) rfl w.heap.size rfl 25 cs (0, 0) _ R_A_2.out Try.underlying25 rfl (by rw [HZ_cs.out]; exact i12) ?_))
    refine (HD0.out _).mono ?_
    rintro e u3 ⟨rfl, hb⟩
    have R_A_3 := Lib.hid (R_A_2.out.under hb R_A_2.out.lt)
    have BT3 := Lib.hid (BT2.out.trans (hb.mono BT2.out.size))
    clear hb BT2 R_A_2
    clear HD0 m4 m5
    go_upto_region 4 with (first | (refine wpList_plain rfl fun _ hK => wp_store_row 31 (.tmp 6) (.tmp 23) rfl u3.heap.size rc rfl rfl 31 _ (Rw.new u3 _ 31) (by rw [HZ_rc.out]; exact i19) (by rw [HZ_rc.out]; rfl) (H1_rc.out) (hK _ _ ?_); clear hK))
    obtain ⟨Q, hY⟩ : ∃ X, X = u3.heap.size := ⟨_, rfl⟩
    rw [← hY]
    refine name_w (fun W => Rw W w.heap.size cs 25 ∧ Rw W Q rc 31 ∧ Below w.heap.size w W) ?_ ?_
    · have bb := below_setRow ((Below.refl u3.heap.size u3).alloc (Nat.le_refl _) (.cells (recC (rcK 0 0)) 31)) (Nat.le_refl _) (b := u3.heap.size) rc
      rw [hY]
      exact ⟨R_A_3.out.under bb R_A_3.out.lt, (Rw.new u3 _ 31).set rc, BT3.out.trans (bb.mono BT3.out.size)⟩
    clear hY BT3 R_A_3
    rintro u4 ⟨h0, h1, h2⟩
    have R_A_4 := Lib.hid h0
    have R_Q_4 := Lib.hid h1
    have BT4 := Lib.hid h2
    clear h0 h1 h2
    have m0 : u4.cell? ⟨w.heap.size, 0, none⟩ = some (.int .i64 ph) := by rw [R_A_4.out.cell 0, HE_cs.out]; rfl
    by_cases h0 : ph = 0
    case pos =>
      obtain rfl : a = 0 := HWX.out.1 (by omega)
      subst h0
      clear HWX
      go_wp2
      go_ret
      exact ⟨rfl, BT4.out⟩
    by_cases h1 : ph = 1
    case pos =>
      obtain rfl : a = 0 := HWX.out.1 (by omega)
      subst h1
      clear HWX h0
      go_wp2
      go_ret
      exact ⟨rfl, BT4.out⟩
    by_cases h2 : ph = 2
    case pos =>
      obtain rfl : a = 0 := HWX.out.1 (by omega)
      subst h2
      clear HWX h0 h1
      go_wp2
      go_ret
      exact ⟨rfl, BT4.out⟩
    by_cases h4 : ph = 4
    case pos =>
      obtain rfl : a = 0 := HWX.out.1 (by omega)
      subst h4
      clear HWX h0 h1 h2
      go_wp2
      go_ret
      exact ⟨rfl, BT4.out⟩
    have e0 : (ph == 0) = false := beq_eq_false_iff_ne.2 h0
    have e1 : (ph == 1) = false := beq_eq_false_iff_ne.2 h1
    have e2 : (ph == 2) = false := beq_eq_false_iff_ne.2 h2
    have e4 : (ph == 4) = false := beq_eq_false_iff_ne.2 h4
    clear h0 h1 h2 h4
    have hz := HWX.out.2
    clear HWX
    rcases hz with rfl | rfl | rfl | rfl
    · go_wp2
      go_ret
      exact ⟨rfl, BT4.out⟩
    · go_wp2
      go_ret
      exact ⟨rfl, BT4.out⟩
    · go_wp2
      go_ret
      exact ⟨rfl, BT4.out⟩
    · go_wp2
      go_ret
      exact ⟨rfl, BT4.out⟩
theorem walk (hp : PkgPl) (s : St) (now : Int) (w : World) (hs : FitsS s) (hn : Fits now) : Calls Try.prog 7 #[stV s, .int .i64 now] w (Holds w) := by
  obtain ⟨ph, ac, r0, r1, w0, w1, p0, p1, dl, gn, sw, fl⟩ := s
  exact walk_c hp ph ac r0 r1 w0 w1 dl gn sw fl now p0 p1 w hs hn
end Go.Proofs.Ytmodacieflcheaa.planWaits
