/-
  switchback's MayPhases: with each phase one of the gates' verdicts at most may be told, and then of one revision alone; an operation of another kind than the four never may. For every input the law returns true, and each argument reads afterwards as it read before. No condition beside the row's own.
-/
import Derived.Test.YtakjehioadpldaaLift
import Derived.Deep.LoopGhost
import Derived.Deep.Cut
namespace Go.Proofs.Ytakjehioadpldaa.mayPhases
open Go.Proofs.Ytakjehioadpldaa
open Go.ChangeShapes Go.WideShapes Go.ChangeAt Go.RowKit
set_option linter.unusedVariables false

theorem pre_x (ph ra ro gn sw rev now : Int) : chkX ph ra ro gn sw 4 rev 0 0 now = if rev < 1 ∨ 1073741824 < rev then 1 else if ph ≠ 2 then 7 else if rev ≠ ro then 13 else 0 := by
  unfold chkX
  rw [if_neg (by decide), if_neg (by decide)]
  rfl
theorem post_x (ph ra ro gn sw rev now : Int) : chkX ph ra ro gn sw 9 rev 0 0 now = if rev < 1 ∨ 1073741824 < rev then 1 else if ph ≠ 4 then 7 else if rev ≠ ra then 13 else 0 := by
  unfold chkX
  rw [if_neg (by decide), if_neg (by decide)]
  split
  · rfl
  · rw [if_neg (by decide)]; rfl
theorem kind_x (ph ra ro gn sw kd rev now : Int) : chkX ph ra ro gn sw kd rev 1 0 now = 6 ↔ kd ≠ 1 ∧ kd ≠ 2 ∧ kd ≠ 4 ∧ kd ≠ 9 := by
  unfold chkX
  (repeat' split) <;> first | (constructor <;> intro h <;> first | omega | (exfalso; omega)) | omega
set_option maxRecDepth 100000 in
set_option maxHeartbeats 8000000 in
theorem walk_0 (hp : PkgM) (ph r0 r1 w0 w1 dl gn sw fl rev now : Int) (p0 p1 : Bool) (w : World) (hs : FitsS ⟨ph, 0, r0, r1, w0, w1, p0, p1, dl, gn, sw, fl⟩) (hr : Fits rev) (hn : Fits now) (hrt : rightS ⟨ph, 0, r0, r1, w0, w1, p0, p1, dl, gn, sw, fl⟩ = true) : Calls Try.prog 6 #[stV ⟨ph, 0, r0, r1, w0, w1, p0, p1, dl, gn, sw, fl⟩, .int .i64 rev, .int .i64 now] w (Holds w) := by
  have HAW : Hid (∀ W, Calls Try.prog 8 #[] W fun e w' => e = .returned (.bool true) ∧ Below W.heap.size W w') := Lib.hid (awake_any hp)
  have HMR : Hid (∀ W, Calls Try.prog 9 #[.agg (stC ⟨ph, 0, r0, r1, w0, w1, p0, p1, dl, gn, sw, fl⟩)] W fun e w' => e = .returned (.bool true) ∧ Below W.heap.size W w') := Lib.hid (fun W => by rw [← hrt]; exact mright_any ⟨ph, 0, r0, r1, w0, w1, p0, p1, dl, gn, sw, fl⟩ W)
  have fz : ∀ k a : Int, -2 ≤ k ∧ k ≤ 20 → 0 ≤ a ∧ a ≤ 1 → FitsO ⟨k, rev, a, 0, false⟩ := fun k a h1 h2 => ⟨show Fits k from by unfold Fits; omega, hr, show Fits a from fits_small h2.1 (by omega), show Fits 0 from fits_small (by decide) (by decide)⟩
  obtain ⟨va, hva⟩ : ∃ x, x = chkX ph r0 r1 gn sw 4 rev 0 0 now := ⟨_, rfl⟩
  obtain ⟨vb, hvb⟩ : ∃ x, x = chkX ph r0 r1 gn sw 9 rev 0 0 now := ⟨_, rfl⟩
  have HC0 : Hid (∀ W, Calls Try.prog 10 #[.agg (stC ⟨ph, 0, r0, r1, w0, w1, p0, p1, dl, gn, sw, fl⟩), .agg (opC ⟨4, rev, 0, 0, false⟩), .int .i64 now] W fun e w' => e = .returned (.int .i64 va) ∧ Below W.heap.size W w') := Lib.hid (fun W => by rw [hva]; exact hp.check ⟨ph, 0, r0, r1, w0, w1, p0, p1, dl, gn, sw, fl⟩ ⟨4, rev, 0, 0, false⟩ now W hrt hs (fz _ _ (by decide) (by decide)) hn)
  have HC1 : Hid (∀ W, Calls Try.prog 10 #[.agg (stC ⟨ph, 0, r0, r1, w0, w1, p0, p1, dl, gn, sw, fl⟩), .agg (opC ⟨9, rev, 0, 0, false⟩), .int .i64 now] W fun e w' => e = .returned (.int .i64 vb) ∧ Below W.heap.size W w') := Lib.hid (fun W => by rw [hvb]; exact hp.check ⟨ph, 0, r0, r1, w0, w1, p0, p1, dl, gn, sw, fl⟩ ⟨9, rev, 0, 0, false⟩ now W hrt hs (fz _ _ (by decide) (by decide)) hn)
  have HCK : Hid (∀ k : Int, -2 ≤ k ∧ k ≤ 20 → ∀ W, Calls Try.prog 10 #[.agg (stC ⟨ph, 0, r0, r1, w0, w1, p0, p1, dl, gn, sw, fl⟩), .agg (opC ⟨k, rev, 1, 0, false⟩), .int .i64 now] W fun e w' => e = .returned (.int .i64 (chkX ph r0 r1 gn sw k rev 1 0 now)) ∧ Below W.heap.size W w') := Lib.hid (fun k hk W => hp.check ⟨ph, 0, r0, r1, w0, w1, p0, p1, dl, gn, sw, fl⟩ ⟨k, rev, 1, 0, false⟩ now W hrt hs (fz _ _ hk (by decide)) hn)
  rw [pre_x] at hva
  rw [post_x] at hvb
  have HVA := Lib.hid hva
  have HVB := Lib.hid hvb
  clear hva hvb
  obtain ⟨cs, hcs⟩ : ∃ c, c = stC ⟨ph, 0, r0, r1, w0, w1, p0, p1, dl, gn, sw, fl⟩ := ⟨_, rfl⟩
  have HE_cs := Lib.hid hcs
  have HZ_cs : Hid (cs.size = 12) := Lib.hid (by rw [hcs]; rfl)
  have H1_cs : Hid (cs.all (·.oneCell') = true) := Lib.hid (by rw [hcs]; exact stC_one _)
  rw [← hcs] at HMR HC0 HC1 HCK
  unfold stV
  rw [← hcs]
  clear hcs fz hp hrt hs hr hn
  go_enter Try.func6, Try.ntmps6
  go_upto_region 1 with (fail)
  refine name_w (fun W => Rw W w.heap.size cs 25 ∧ Below w.heap.size w W) ⟨Rw.new _ _ _, (Below.refl _ _).alloc (Nat.le_refl _) _⟩ ?_
  rintro u0 ⟨h0, h1⟩
  have R_A_0 := Lib.hid h0
  have BT0 := Lib.hid h1
  clear h0 h1
  go_wp2_with fail
  refine (HAW.out _).mono ?_
  rintro e u1 ⟨rfl, hb⟩
  have R_A_1 := Lib.hid (R_A_0.out.under hb R_A_0.out.lt)
  have BT1 := Lib.hid (BT0.out.trans (hb.mono BT0.out.size))
  clear hb BT0 R_A_0
  go_wp2_with (first | (refine wpList_load_any (by rfl) 25 (.tmp 3) rfl w.heap.size rfl 25 cs (0, 0) _ R_A_1.out Try.underlying25 rfl (by rw [HZ_cs.out]; exact i12) ?_))
  refine (HMR.out _).mono ?_
  rintro e u2 ⟨rfl, hb⟩
  have R_A_2 := Lib.hid (R_A_1.out.under hb R_A_1.out.lt)
  have BT2 := Lib.hid (BT1.out.trans (hb.mono BT1.out.size))
  clear hb BT1 R_A_1
  clear HMR HAW
  go_wp2_with (first | (refine wpList_load_any (by rfl) 25 (.tmp 3) rfl w.heap.size rfl 25 cs (0, 0) _ R_A_2.out Try.underlying25 rfl (by rw [HZ_cs.out]; exact i12) ?_))
  refine (HC0.out _).mono ?_
  rintro e u3 ⟨rfl, hb⟩
  have R_A_3 := Lib.hid (R_A_2.out.under hb R_A_2.out.lt)
  have BT3 := Lib.hid (BT2.out.trans (hb.mono BT2.out.size))
  clear hb BT2 R_A_2
  clear HC0
  go_wp2_with (first | (refine wpList_load_any (by rfl) 25 (.tmp 3) rfl w.heap.size rfl 25 cs (0, 0) _ R_A_3.out Try.underlying25 rfl (by rw [HZ_cs.out]; exact i12) ?_))
  refine (HC1.out _).mono ?_
  rintro e u4 ⟨rfl, hb⟩
  have R_A_4 := Lib.hid (R_A_3.out.under hb R_A_3.out.lt)
  have BT4 := Lib.hid (BT3.out.trans (hb.mono BT3.out.size))
  clear hb BT3 R_A_3
  clear HC1
  go_upto_region 5 with (fail)
  go_cut [71] from 29 (fun v W => v = .bool false ∧ Rw W w.heap.size cs 25 ∧ Below w.heap.size w W)
  case first =>
    have m0 : u4.cell? ⟨w.heap.size, 0, none⟩ = some (.int .i64 ph) := by rw [R_A_4.out.cell 0, HE_cs.out]; rfl
    have m1 : u4.cell? ⟨w.heap.size, 1, none⟩ = some (.int .i64 0) := by rw [R_A_4.out.cell 1, HE_cs.out]; rfl
    have m2 : u4.cell? ⟨w.heap.size, 2, none⟩ = some (.int .i64 r0) := by rw [R_A_4.out.cell 2, HE_cs.out]; rfl
    have m3 : u4.cell? ⟨w.heap.size, 3, none⟩ = some (.int .i64 r1) := by rw [R_A_4.out.cell 3, HE_cs.out]; rfl
    by_cases h1 : rev < 1 ∨ 1073741824 < rev
    case pos =>
      obtain rfl : va = 1 := by rw [HVA.out]; (repeat' split) <;> omega
      obtain rfl : vb = 1 := by rw [HVB.out]; (repeat' split) <;> omega
      clear HVA HVB HCK h1
      go_wp2
      go_meet
      case rel => exact ⟨rfl, R_A_4.out, BT4.out⟩
    by_cases h2 : ph = 2
    case pos =>
      by_cases h3 : rev = r1
      case pos =>
        have g1 : (ph == 2) = true := by rw [h2]; exact beq_self_eq_true _
        have g2 : (ph != 2) = false := by rw [bne, g1]; rfl
        have g3 : (rev == r1) = true := by rw [h3]; exact beq_self_eq_true _
        have g4 : (rev != r1) = false := by rw [bne, g3]; rfl
        obtain rfl : va = 0 := by rw [HVA.out]; (repeat' split) <;> omega
        obtain rfl : vb = 7 := by rw [HVB.out]; (repeat' split) <;> omega
        clear HVA HVB HCK h1 h2 h3
        go_wp2
        go_meet
        case rel => exact ⟨rfl, R_A_4.out, BT4.out⟩
      obtain rfl : va = 13 := by rw [HVA.out]; (repeat' split) <;> omega
      obtain rfl : vb = 7 := by rw [HVB.out]; (repeat' split) <;> omega
      clear HVA HVB HCK h1 h2 h3
      go_wp2
      go_meet
      case rel => exact ⟨rfl, R_A_4.out, BT4.out⟩
    by_cases h4 : ph = 4
    case pos =>
      by_cases h3 : rev = r0
      case pos =>
        have g1 : (ph == 4) = true := by rw [h4]; exact beq_self_eq_true _
        have g2 : (ph != 4) = false := by rw [bne, g1]; rfl
        have g3 : (rev == r0) = true := by rw [h3]; exact beq_self_eq_true _
        have g4 : (rev != r0) = false := by rw [bne, g3]; rfl
        obtain rfl : va = 7 := by rw [HVA.out]; (repeat' split) <;> omega
        obtain rfl : vb = 0 := by rw [HVB.out]; (repeat' split) <;> omega
        clear HVA HVB HCK h1 h2 h3 h4
        go_wp2
        go_meet
        case rel => exact ⟨rfl, R_A_4.out, BT4.out⟩
      obtain rfl : va = 7 := by rw [HVA.out]; (repeat' split) <;> omega
      obtain rfl : vb = 13 := by rw [HVB.out]; (repeat' split) <;> omega
      clear HVA HVB HCK h1 h2 h3 h4
      go_wp2
      go_meet
      case rel => exact ⟨rfl, R_A_4.out, BT4.out⟩
    obtain rfl : va = 7 := by rw [HVA.out]; (repeat' split) <;> omega
    obtain rfl : vb = 7 := by rw [HVB.out]; (repeat' split) <;> omega
    clear HVA HVB HCK h1 h2 h4
    go_wp2
    go_meet
    case rel => exact ⟨rfl, R_A_4.out, BT4.out⟩
  case rest =>
    obtain ⟨rfl, hR, hB⟩ := hcut
    have HR := Lib.hid hR
    have HB := Lib.hid hB
    clear hR hB R_A_4 BT4 HVA HVB
    go_wp2
    go_loopg [9] 22 (fun gg iv wr => ∃ i : Int, Hid ((gg : Int) = 20 - i) ∧ -2 ≤ i ∧ i ≤ 20 ∧ iv = .int .i64 i ∧ Hid (Rw wr w.heap.size cs 25 ∧ Below w.heap.size w wr))
    case atStart => exact ⟨-2, Lib.hid (by decide), by decide, by decide, rfl, Lib.hid ⟨HR.out, HB.out⟩⟩
    case round =>
      obtain ⟨i, HG, hi1, hi2, rfl, HJ⟩ := hrel
      clear HR HB
      by_cases hl : i < 20
      case neg =>
        have e4 : decide (i < 20) = false := decide_eq_false hl
        clear hl
        go_wp2
        go_ret
        exact ⟨rfl, HJ.out.2⟩
      have e4 : decide (i < 20) = true := decide_eq_true hl
      have HLT := Lib.hid hl
      clear hl
      obtain ⟨c, hc⟩ : ∃ x, x = chkX ph r0 r1 gn sw i rev 1 0 now := ⟨_, rfl⟩
      have HK6 := Lib.hid (kind_x ph r0 r1 gn sw i rev now)
      have HCC := Lib.hid (HCK.out i ⟨hi1, hi2⟩)
      rw [← hc] at HK6 HCC
      have HI := Lib.hid hi1
      clear hc hi1 hi2
      go_wp2_with (refine wpList_load_row rfl 25 (.tmp 3) rfl w.heap.size rfl 25 cs (0, 0) _ HJ.out.1 Try.underlying25 rfl (by rw [HZ_cs.out]; exact i12) ?_)
      refine (HCC.out _).mono ?_
      rintro e w2 ⟨rfl, hb⟩
      have HJ2 : Hid (Rw w2 w.heap.size cs 25 ∧ Below w.heap.size w w2) := Lib.hid ⟨HJ.out.1.under hb HJ.out.1.lt, HJ.out.2.trans (hb.mono HJ.out.2.size)⟩
      clear hb HJ HCC
      by_cases k1 : i = 1
      case pos =>
        subst k1
        have b0 : (c == 6) = false := beq_eq_false_iff_ne.2 (fun h => by have := HK6.out.1 h; omega)
        clear HK6 
        go_wp2
        go_roundg 18
        case measure => have := HG.out; omega
        case rel => exact ⟨2, Lib.hid (by decide), by decide, by decide, rfl, HJ2⟩
      by_cases k2 : i = 2
      case pos =>
        subst k2
        have b0 : (c == 6) = false := beq_eq_false_iff_ne.2 (fun h => by have := HK6.out.1 h; omega)
        clear HK6 k1
        go_wp2
        go_roundg 17
        case measure => have := HG.out; omega
        case rel => exact ⟨3, Lib.hid (by decide), by decide, by decide, rfl, HJ2⟩
      by_cases k4 : i = 4
      case pos =>
        subst k4
        have b0 : (c == 6) = false := beq_eq_false_iff_ne.2 (fun h => by have := HK6.out.1 h; omega)
        clear HK6 k1 k2
        go_wp2
        go_roundg 15
        case measure => have := HG.out; omega
        case rel => exact ⟨5, Lib.hid (by decide), by decide, by decide, rfl, HJ2⟩
      by_cases k9 : i = 9
      case pos =>
        subst k9
        have b0 : (c == 6) = false := beq_eq_false_iff_ne.2 (fun h => by have := HK6.out.1 h; omega)
        clear HK6 k1 k2 k4
        go_wp2
        go_roundg 10
        case measure => have := HG.out; omega
        case rel => exact ⟨10, Lib.hid (by decide), by decide, by decide, rfl, HJ2⟩
      have b0 : (c == 6) = true := by rw [HK6.out.2 ⟨k1, k2, k4, k9⟩]; rfl
      have s1 : (i == 1) = false := beq_eq_false_iff_ne.2 k1
      have n1 : (i != 1) = true := bne_iff_ne.2 k1
      have s2 : (i == 2) = false := beq_eq_false_iff_ne.2 k2
      have n2 : (i != 2) = true := bne_iff_ne.2 k2
      have s4 : (i == 4) = false := beq_eq_false_iff_ne.2 k4
      have n4 : (i != 4) = true := bne_iff_ne.2 k4
      have s9 : (i == 9) = false := beq_eq_false_iff_ne.2 k9
      have n9 : (i != 9) = true := bne_iff_ne.2 k9
      have ew : IntKind.i64.wrap (i + 1) = i + 1 := IntWalk.i64_in _ (by have := HI.out; have := HLT.out; omega)
      clear k1 k2 k4 k9 HK6
      go_wp2
      go_roundg ((20 - (i + 1)).toNat)
      case measure => have := HG.out; have := HLT.out; omega
      case rel => exact ⟨i + 1, Lib.hid (by have := HLT.out; omega), by have := HI.out; omega, by have := HLT.out; omega, by first | rfl | (rw [ew]) | go_num, HJ2⟩
set_option maxRecDepth 100000 in
set_option maxHeartbeats 8000000 in
theorem walk_1 (hp : PkgM) (ph r0 r1 w0 w1 dl gn sw fl rev now : Int) (p0 p1 : Bool) (w : World) (hs : FitsS ⟨ph, 1, r0, r1, w0, w1, p0, p1, dl, gn, sw, fl⟩) (hr : Fits rev) (hn : Fits now) (hrt : rightS ⟨ph, 1, r0, r1, w0, w1, p0, p1, dl, gn, sw, fl⟩ = true) : Calls Try.prog 6 #[stV ⟨ph, 1, r0, r1, w0, w1, p0, p1, dl, gn, sw, fl⟩, .int .i64 rev, .int .i64 now] w (Holds w) := by
  have HAW : Hid (∀ W, Calls Try.prog 8 #[] W fun e w' => e = .returned (.bool true) ∧ Below W.heap.size W w') := Lib.hid (awake_any hp)
  have HMR : Hid (∀ W, Calls Try.prog 9 #[.agg (stC ⟨ph, 1, r0, r1, w0, w1, p0, p1, dl, gn, sw, fl⟩)] W fun e w' => e = .returned (.bool true) ∧ Below W.heap.size W w') := Lib.hid (fun W => by rw [← hrt]; exact mright_any ⟨ph, 1, r0, r1, w0, w1, p0, p1, dl, gn, sw, fl⟩ W)
  have fz : ∀ k a : Int, -2 ≤ k ∧ k ≤ 20 → 0 ≤ a ∧ a ≤ 1 → FitsO ⟨k, rev, a, 0, false⟩ := fun k a h1 h2 => ⟨show Fits k from by unfold Fits; omega, hr, show Fits a from fits_small h2.1 (by omega), show Fits 0 from fits_small (by decide) (by decide)⟩
  obtain ⟨va, hva⟩ : ∃ x, x = chkX ph r1 r0 gn sw 4 rev 0 0 now := ⟨_, rfl⟩
  obtain ⟨vb, hvb⟩ : ∃ x, x = chkX ph r1 r0 gn sw 9 rev 0 0 now := ⟨_, rfl⟩
  have HC0 : Hid (∀ W, Calls Try.prog 10 #[.agg (stC ⟨ph, 1, r0, r1, w0, w1, p0, p1, dl, gn, sw, fl⟩), .agg (opC ⟨4, rev, 0, 0, false⟩), .int .i64 now] W fun e w' => e = .returned (.int .i64 va) ∧ Below W.heap.size W w') := Lib.hid (fun W => by rw [hva]; exact hp.check ⟨ph, 1, r0, r1, w0, w1, p0, p1, dl, gn, sw, fl⟩ ⟨4, rev, 0, 0, false⟩ now W hrt hs (fz _ _ (by decide) (by decide)) hn)
  have HC1 : Hid (∀ W, Calls Try.prog 10 #[.agg (stC ⟨ph, 1, r0, r1, w0, w1, p0, p1, dl, gn, sw, fl⟩), .agg (opC ⟨9, rev, 0, 0, false⟩), .int .i64 now] W fun e w' => e = .returned (.int .i64 vb) ∧ Below W.heap.size W w') := Lib.hid (fun W => by rw [hvb]; exact hp.check ⟨ph, 1, r0, r1, w0, w1, p0, p1, dl, gn, sw, fl⟩ ⟨9, rev, 0, 0, false⟩ now W hrt hs (fz _ _ (by decide) (by decide)) hn)
  have HCK : Hid (∀ k : Int, -2 ≤ k ∧ k ≤ 20 → ∀ W, Calls Try.prog 10 #[.agg (stC ⟨ph, 1, r0, r1, w0, w1, p0, p1, dl, gn, sw, fl⟩), .agg (opC ⟨k, rev, 1, 0, false⟩), .int .i64 now] W fun e w' => e = .returned (.int .i64 (chkX ph r1 r0 gn sw k rev 1 0 now)) ∧ Below W.heap.size W w') := Lib.hid (fun k hk W => hp.check ⟨ph, 1, r0, r1, w0, w1, p0, p1, dl, gn, sw, fl⟩ ⟨k, rev, 1, 0, false⟩ now W hrt hs (fz _ _ hk (by decide)) hn)
  rw [pre_x] at hva
  rw [post_x] at hvb
  have HVA := Lib.hid hva
  have HVB := Lib.hid hvb
  clear hva hvb
  obtain ⟨cs, hcs⟩ : ∃ c, c = stC ⟨ph, 1, r0, r1, w0, w1, p0, p1, dl, gn, sw, fl⟩ := ⟨_, rfl⟩
  have HE_cs := Lib.hid hcs
  have HZ_cs : Hid (cs.size = 12) := Lib.hid (by rw [hcs]; rfl)
  have H1_cs : Hid (cs.all (·.oneCell') = true) := Lib.hid (by rw [hcs]; exact stC_one _)
  rw [← hcs] at HMR HC0 HC1 HCK
  unfold stV
  rw [← hcs]
  clear hcs fz hp hrt hs hr hn
  go_enter Try.func6, Try.ntmps6
  go_upto_region 1 with (fail)
  refine name_w (fun W => Rw W w.heap.size cs 25 ∧ Below w.heap.size w W) ⟨Rw.new _ _ _, (Below.refl _ _).alloc (Nat.le_refl _) _⟩ ?_
  rintro u0 ⟨h0, h1⟩
  have R_A_0 := Lib.hid h0
  have BT0 := Lib.hid h1
  clear h0 h1
  go_wp2_with fail
  refine (HAW.out _).mono ?_
  rintro e u1 ⟨rfl, hb⟩
  have R_A_1 := Lib.hid (R_A_0.out.under hb R_A_0.out.lt)
  have BT1 := Lib.hid (BT0.out.trans (hb.mono BT0.out.size))
  clear hb BT0 R_A_0
  go_wp2_with (first | (refine wpList_load_any (by rfl) 25 (.tmp 3) rfl w.heap.size rfl 25 cs (0, 0) _ R_A_1.out Try.underlying25 rfl (by rw [HZ_cs.out]; exact i12) ?_))
  refine (HMR.out _).mono ?_
  rintro e u2 ⟨rfl, hb⟩
  have R_A_2 := Lib.hid (R_A_1.out.under hb R_A_1.out.lt)
  have BT2 := Lib.hid (BT1.out.trans (hb.mono BT1.out.size))
  clear hb BT1 R_A_1
  clear HMR HAW
  go_wp2_with (first | (refine wpList_load_any (by rfl) 25 (.tmp 3) rfl w.heap.size rfl 25 cs (0, 0) _ R_A_2.out Try.underlying25 rfl (by rw [HZ_cs.out]; exact i12) ?_))
  refine (HC0.out _).mono ?_
  rintro e u3 ⟨rfl, hb⟩
  have R_A_3 := Lib.hid (R_A_2.out.under hb R_A_2.out.lt)
  have BT3 := Lib.hid (BT2.out.trans (hb.mono BT2.out.size))
  clear hb BT2 R_A_2
  clear HC0
  go_wp2_with (first | (refine wpList_load_any (by rfl) 25 (.tmp 3) rfl w.heap.size rfl 25 cs (0, 0) _ R_A_3.out Try.underlying25 rfl (by rw [HZ_cs.out]; exact i12) ?_))
  refine (HC1.out _).mono ?_
  rintro e u4 ⟨rfl, hb⟩
  have R_A_4 := Lib.hid (R_A_3.out.under hb R_A_3.out.lt)
  have BT4 := Lib.hid (BT3.out.trans (hb.mono BT3.out.size))
  clear hb BT3 R_A_3
  clear HC1
  go_upto_region 5 with (fail)
  go_cut [71] from 29 (fun v W => v = .bool false ∧ Rw W w.heap.size cs 25 ∧ Below w.heap.size w W)
  case first =>
    have m0 : u4.cell? ⟨w.heap.size, 0, none⟩ = some (.int .i64 ph) := by rw [R_A_4.out.cell 0, HE_cs.out]; rfl
    have m1 : u4.cell? ⟨w.heap.size, 1, none⟩ = some (.int .i64 1) := by rw [R_A_4.out.cell 1, HE_cs.out]; rfl
    have m2 : u4.cell? ⟨w.heap.size, 2, none⟩ = some (.int .i64 r0) := by rw [R_A_4.out.cell 2, HE_cs.out]; rfl
    have m3 : u4.cell? ⟨w.heap.size, 3, none⟩ = some (.int .i64 r1) := by rw [R_A_4.out.cell 3, HE_cs.out]; rfl
    by_cases h1 : rev < 1 ∨ 1073741824 < rev
    case pos =>
      obtain rfl : va = 1 := by rw [HVA.out]; (repeat' split) <;> omega
      obtain rfl : vb = 1 := by rw [HVB.out]; (repeat' split) <;> omega
      clear HVA HVB HCK h1
      go_wp2
      go_meet
      case rel => exact ⟨rfl, R_A_4.out, BT4.out⟩
    by_cases h2 : ph = 2
    case pos =>
      by_cases h3 : rev = r0
      case pos =>
        have g1 : (ph == 2) = true := by rw [h2]; exact beq_self_eq_true _
        have g2 : (ph != 2) = false := by rw [bne, g1]; rfl
        have g3 : (rev == r0) = true := by rw [h3]; exact beq_self_eq_true _
        have g4 : (rev != r0) = false := by rw [bne, g3]; rfl
        obtain rfl : va = 0 := by rw [HVA.out]; (repeat' split) <;> omega
        obtain rfl : vb = 7 := by rw [HVB.out]; (repeat' split) <;> omega
        clear HVA HVB HCK h1 h2 h3
        go_wp2
        go_meet
        case rel => exact ⟨rfl, R_A_4.out, BT4.out⟩
      obtain rfl : va = 13 := by rw [HVA.out]; (repeat' split) <;> omega
      obtain rfl : vb = 7 := by rw [HVB.out]; (repeat' split) <;> omega
      clear HVA HVB HCK h1 h2 h3
      go_wp2
      go_meet
      case rel => exact ⟨rfl, R_A_4.out, BT4.out⟩
    by_cases h4 : ph = 4
    case pos =>
      by_cases h3 : rev = r1
      case pos =>
        have g1 : (ph == 4) = true := by rw [h4]; exact beq_self_eq_true _
        have g2 : (ph != 4) = false := by rw [bne, g1]; rfl
        have g3 : (rev == r1) = true := by rw [h3]; exact beq_self_eq_true _
        have g4 : (rev != r1) = false := by rw [bne, g3]; rfl
        obtain rfl : va = 7 := by rw [HVA.out]; (repeat' split) <;> omega
        obtain rfl : vb = 0 := by rw [HVB.out]; (repeat' split) <;> omega
        clear HVA HVB HCK h1 h2 h3 h4
        go_wp2
        go_meet
        case rel => exact ⟨rfl, R_A_4.out, BT4.out⟩
      obtain rfl : va = 7 := by rw [HVA.out]; (repeat' split) <;> omega
      obtain rfl : vb = 13 := by rw [HVB.out]; (repeat' split) <;> omega
      clear HVA HVB HCK h1 h2 h3 h4
      go_wp2
      go_meet
      case rel => exact ⟨rfl, R_A_4.out, BT4.out⟩
    obtain rfl : va = 7 := by rw [HVA.out]; (repeat' split) <;> omega
    obtain rfl : vb = 7 := by rw [HVB.out]; (repeat' split) <;> omega
    clear HVA HVB HCK h1 h2 h4
    go_wp2
    go_meet
    case rel => exact ⟨rfl, R_A_4.out, BT4.out⟩
  case rest =>
    obtain ⟨rfl, hR, hB⟩ := hcut
    have HR := Lib.hid hR
    have HB := Lib.hid hB
    clear hR hB R_A_4 BT4 HVA HVB
    go_wp2
    go_loopg [9] 22 (fun gg iv wr => ∃ i : Int, Hid ((gg : Int) = 20 - i) ∧ -2 ≤ i ∧ i ≤ 20 ∧ iv = .int .i64 i ∧ Hid (Rw wr w.heap.size cs 25 ∧ Below w.heap.size w wr))
    case atStart => exact ⟨-2, Lib.hid (by decide), by decide, by decide, rfl, Lib.hid ⟨HR.out, HB.out⟩⟩
    case round =>
      obtain ⟨i, HG, hi1, hi2, rfl, HJ⟩ := hrel
      clear HR HB
      by_cases hl : i < 20
      case neg =>
        have e4 : decide (i < 20) = false := decide_eq_false hl
        clear hl
        go_wp2
        go_ret
        exact ⟨rfl, HJ.out.2⟩
      have e4 : decide (i < 20) = true := decide_eq_true hl
      have HLT := Lib.hid hl
      clear hl
      obtain ⟨c, hc⟩ : ∃ x, x = chkX ph r1 r0 gn sw i rev 1 0 now := ⟨_, rfl⟩
      have HK6 := Lib.hid (kind_x ph r1 r0 gn sw i rev now)
      have HCC := Lib.hid (HCK.out i ⟨hi1, hi2⟩)
      rw [← hc] at HK6 HCC
      have HI := Lib.hid hi1
      clear hc hi1 hi2
      go_wp2_with (refine wpList_load_row rfl 25 (.tmp 3) rfl w.heap.size rfl 25 cs (0, 0) _ HJ.out.1 Try.underlying25 rfl (by rw [HZ_cs.out]; exact i12) ?_)
      refine (HCC.out _).mono ?_
      rintro e w2 ⟨rfl, hb⟩
      have HJ2 : Hid (Rw w2 w.heap.size cs 25 ∧ Below w.heap.size w w2) := Lib.hid ⟨HJ.out.1.under hb HJ.out.1.lt, HJ.out.2.trans (hb.mono HJ.out.2.size)⟩
      clear hb HJ HCC
      by_cases k1 : i = 1
      case pos =>
        subst k1
        have b0 : (c == 6) = false := beq_eq_false_iff_ne.2 (fun h => by have := HK6.out.1 h; omega)
        clear HK6 
        go_wp2
        go_roundg 18
        case measure => have := HG.out; omega
        case rel => exact ⟨2, Lib.hid (by decide), by decide, by decide, rfl, HJ2⟩
      by_cases k2 : i = 2
      case pos =>
        subst k2
        have b0 : (c == 6) = false := beq_eq_false_iff_ne.2 (fun h => by have := HK6.out.1 h; omega)
        clear HK6 k1
        go_wp2
        go_roundg 17
        case measure => have := HG.out; omega
        case rel => exact ⟨3, Lib.hid (by decide), by decide, by decide, rfl, HJ2⟩
      by_cases k4 : i = 4
      case pos =>
        subst k4
        have b0 : (c == 6) = false := beq_eq_false_iff_ne.2 (fun h => by have := HK6.out.1 h; omega)
        clear HK6 k1 k2
        go_wp2
        go_roundg 15
        case measure => have := HG.out; omega
        case rel => exact ⟨5, Lib.hid (by decide), by decide, by decide, rfl, HJ2⟩
      by_cases k9 : i = 9
      case pos =>
        subst k9
        have b0 : (c == 6) = false := beq_eq_false_iff_ne.2 (fun h => by have := HK6.out.1 h; omega)
        clear HK6 k1 k2 k4
        go_wp2
        go_roundg 10
        case measure => have := HG.out; omega
        case rel => exact ⟨10, Lib.hid (by decide), by decide, by decide, rfl, HJ2⟩
      have b0 : (c == 6) = true := by rw [HK6.out.2 ⟨k1, k2, k4, k9⟩]; rfl
      have s1 : (i == 1) = false := beq_eq_false_iff_ne.2 k1
      have n1 : (i != 1) = true := bne_iff_ne.2 k1
      have s2 : (i == 2) = false := beq_eq_false_iff_ne.2 k2
      have n2 : (i != 2) = true := bne_iff_ne.2 k2
      have s4 : (i == 4) = false := beq_eq_false_iff_ne.2 k4
      have n4 : (i != 4) = true := bne_iff_ne.2 k4
      have s9 : (i == 9) = false := beq_eq_false_iff_ne.2 k9
      have n9 : (i != 9) = true := bne_iff_ne.2 k9
      have ew : IntKind.i64.wrap (i + 1) = i + 1 := IntWalk.i64_in _ (by have := HI.out; have := HLT.out; omega)
      clear k1 k2 k4 k9 HK6
      go_wp2
      go_roundg ((20 - (i + 1)).toNat)
      case measure => have := HG.out; have := HLT.out; omega
      case rel => exact ⟨i + 1, Lib.hid (by have := HLT.out; omega), by have := HI.out; omega, by have := HLT.out; omega, by first | rfl | (rw [ew]) | go_num, HJ2⟩
set_option maxRecDepth 100000 in
set_option maxHeartbeats 8000000 in
theorem out_slot (hp : PkgM) (s : St) (rev now : Int) (w : World) (hr : rightS s = false) : Calls Try.prog 6 #[stV s, .int .i64 rev, .int .i64 now] w (Holds w) := by
  have HAW : Hid (∀ W, Calls Try.prog 8 #[] W fun e w' => e = .returned (.bool true) ∧ Below W.heap.size W w') := Lib.hid (awake_any hp)
  have HMR : Hid (∀ W, Calls Try.prog 9 #[.agg (stC s)] W fun e w' => e = .returned (.bool false) ∧ Below W.heap.size W w') := Lib.hid (fun W => by rw [← hr]; exact mright_any s W)
  obtain ⟨cs, hcs⟩ : ∃ c, c = stC s := ⟨_, rfl⟩
  have HE_cs := Lib.hid hcs
  have HZ_cs : Hid (cs.size = 12) := Lib.hid (by rw [hcs]; rfl)
  have H1_cs : Hid (cs.all (·.oneCell') = true) := Lib.hid (by rw [hcs]; exact stC_one _)
  rw [← hcs] at HMR
  unfold stV
  rw [← hcs]
  clear hcs hp hr
  go_enter Try.func6, Try.ntmps6
  go_upto_region 1 with (fail)
  refine name_w (fun W => Rw W w.heap.size cs 25 ∧ Below w.heap.size w W) ⟨Rw.new _ _ _, (Below.refl _ _).alloc (Nat.le_refl _) _⟩ ?_
  rintro u0 ⟨h0, h1⟩
  have R_A_0 := Lib.hid h0
  have BT0 := Lib.hid h1
  clear h0 h1
  go_wp2_with fail
  refine (HAW.out _).mono ?_
  rintro e u1 ⟨rfl, hb⟩
  have R_A_1 := Lib.hid (R_A_0.out.under hb R_A_0.out.lt)
  have BT1 := Lib.hid (BT0.out.trans (hb.mono BT0.out.size))
  clear hb BT0 R_A_0
  go_wp2_with (first | (refine wpList_load_any (by rfl) 25 (.tmp 3) rfl w.heap.size rfl 25 cs (0, 0) _ R_A_1.out Try.underlying25 rfl (by rw [HZ_cs.out]; exact i12) ?_))
  refine (HMR.out _).mono ?_
  rintro e u2 ⟨rfl, hb⟩
  have R_A_2 := Lib.hid (R_A_1.out.under hb R_A_1.out.lt)
  have BT2 := Lib.hid (BT1.out.trans (hb.mono BT1.out.size))
  clear hb BT1 R_A_1
  clear HMR
  go_wp2_with fail
  refine (HAW.out _).mono ?_
  rintro e u3 ⟨rfl, hb⟩
  have R_A_3 := Lib.hid (R_A_2.out.under hb R_A_2.out.lt)
  have BT3 := Lib.hid (BT2.out.trans (hb.mono BT2.out.size))
  clear hb BT2 R_A_2
  go_wp2_with fail
  go_ret
  exact ⟨rfl, BT3.out⟩
theorem walk (hp : PkgM) (s : St) (rev now : Int) (w : World) (hs : FitsS s) (hr : Fits rev) (hn : Fits now) : Calls Try.prog 6 #[stV s, .int .i64 rev, .int .i64 now] w (Holds w) := by
  cases h : rightS s with
  | false => exact out_slot hp s rev now w h
  | true =>
    obtain ⟨ph, ac, r0, r1, w0, w1, p0, p1, dl, gn, sw, fl⟩ := s
    rcases (right_in h).1 with h0 | h0
    · obtain rfl : ac = 0 := h0
      exact walk_0 hp ph r0 r1 w0 w1 dl gn sw fl rev now p0 p1 w hs hr hn h
    · obtain rfl : ac = 1 := h0
      exact walk_1 hp ph r0 r1 w0 w1 dl gn sw fl rev now p0 p1 w hs hr hn h
end Go.Proofs.Ytakjehioadpldaa.mayPhases
