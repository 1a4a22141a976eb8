/-
  switchback's ModelSettles: from whatever state, with all replicas ready, and gates that pass, as long as time goes by the delay with each step: behind six steps, and one more for each outcome that was scripted, it is stable, and the other slot has nothing. For every input the law returns true, and each argument reads afterwards as it read before. No condition beside the row's own.
-/
import Derived.Test.YtchaeidmjoelnaaMdH
import Derived.Deep.LoopGhost
import Derived.Deep.Cut
import Derived.Deep.RegionHeld3
import Derived.Deep.QuietTactic
import Derived.BigQuiet
namespace Go.Proofs.Ytchaeidmjoelnaa.modelSettles
open Go.Proofs.Ytchaeidmjoelnaa
open Go.ChangeShapes Go.WideShapes Go.ChangeAt Go.RowKit
set_option linter.unusedVariables false

set_option maxRecDepth 100000 in
set_option maxHeartbeats 8000000 in
theorem walk {F : ObIn Md} (hp : PkgMd F) (v : Value) (xs : List Am) (ca cb cc : Int) (w : World) (hx : ActsI w v xs) (fa : Fits ca) (fb : Fits cb) (fc : Fits cc) : Calls Try.prog 7 #[.agg #[.int .i64 ca, .int .i64 cb, .int .i64 cc], v] w (Holds w) := by
  obtain ⟨A0, c0, rfl⟩ := hx.shape
  have HP := Lib.hid hp
  have HX := Lib.hid hx
  have HF := Lib.hid (And.intro fa (And.intro fb fc))
  have HAW : Hid (∀ W, Calls Try.prog 9 #[] W fun e w' => e = .returned (.bool true) ∧ Below W.heap.size W w') := Lib.hid (awake_any hp)
  obtain ⟨gr, hgr⟩ : ∃ b, b = greatB xs := ⟨_, rfl⟩
  have HGR : Hid (∀ W, Below w.heap.size w W → Calls Try.prog 10 #[.slice A0 xs.length c0] W fun e w' => e = .returned (.bool gr) ∧ Below W.heap.size W w') := Lib.hid (fun W hb => by rw [hgr]; exact great_any _ _ _ (hx.under hb))
  have HG := Lib.hid hgr
  clear hp hx fa fb fc hgr
  go_enter Try.func7, Try.ntmps7
  go_upto_region 1 with (fail)
  obtain ⟨C, hC⟩ : ∃ C, C = w.heap.size := ⟨_, rfl⟩
  rw [← hC]
  refine name_w (fun V => Rw V C #[.int .i64 ca, .int .i64 cb, .int .i64 cc] 22 ∧ Below w.heap.size w V) ⟨by rw [hC]; exact Rw.new _ _ _, (Below.refl _ _).alloc (Nat.le_refl _) _⟩ ?_
  clear hC
  rintro u0 ⟨h1, h2⟩
  have RC0 := Lib.hid h1
  have HB0 := Lib.hid h2
  clear h1 h2
  go_wp2_with fail
  refine (HAW.out _).mono ?_
  rintro e u1 ⟨rfl, hb⟩
  have RC1 := Lib.hid (RC0.out.under hb RC0.out.lt)
  have HB1 := Lib.hid (HB0.out.trans (hb.mono HB0.out.size))
  clear hb RC0 HB0
  go_wp2_with fail
  refine (HGR.out _ HB1.out).mono ?_
  rintro e u2 ⟨rfl, hb⟩
  have RC2 := Lib.hid (RC1.out.under hb RC1.out.lt)
  have HB2 := Lib.hid (HB1.out.trans (hb.mono HB1.out.size))
  clear hb RC1 HB1
  cases gr with
  | true =>
    clear RC2
    go_wp2_with fail
    refine (HAW.out _).mono ?_
    rintro e u3 ⟨rfl, hb⟩
    have HB3 := Lib.hid (HB2.out.trans (hb.mono HB2.out.size))
    clear hb HB2
    go_wp2
    go_ret
    exact ⟨rfl, HB3.out⟩
  | false =>
  have HGN := Lib.hid (great_no HG.out.symm)
  have k0 : u2.cell? ⟨C, 0, none⟩ = some (.int .i64 ca) := by rw [RC2.out.cell]; rfl
  have k1 : u2.cell? ⟨C, 1, none⟩ = some (.int .i64 cb) := by rw [RC2.out.cell]; rfl
  have k2 : u2.cell? ⟨C, 2, none⟩ = some (.int .i64 cc) := by rw [RC2.out.cell]; rfl
  clear HAW HGR HG
  go_wp2_with fail
  refine (HP.out.new ca cb cc u2 HF.out.1 HF.out.2.1 HF.out.2.2).mono ?_
  rintro e u3 hnew
  rcases hnew with ⟨hr, b, rfl, hn⟩ | ⟨hr, rfl, hb⟩
  case inr =>
    have HB3 := Lib.hid (HB2.out.trans (hb.mono HB2.out.size))
    clear hb HB2 hr k0 k1 k2 RC2
    go_wp2
    go_ret
    exact ⟨rfl, HB3.out⟩
  obtain ⟨m0, hm0⟩ : ∃ m, m = newM (firstS ca cb) cc := ⟨_, rfl⟩
  have H3 : Hid (One F w u3 [] b m0) := Lib.hid (by rw [hm0]; exact hn.one HB2.out)
  have N0 : Hid (MdN 0 m0) := Lib.hid (by rw [hm0]; exact mdn_new hr)
  have S0 : Hid (SetN 0 0 m0) := Lib.hid (by rw [hm0]; exact sets_new hr)
  clear hr hn hm0 HB2 RC2 k0 k1 k2 HF
  go_wp2
  go_loopg [7, 44] xs.length (fun m' mv iv wr => ∃ k : Nat, Hid (m' = xs.length - k) ∧ k ≤ xs.length ∧ iv = .int .i64 (k : Int) ∧ ∃ q : Nat, mv = .int .i64 (q : Int) ∧ q ≤ 200 ∧ Hid (q = moreA (xs.take k)) ∧ Hid (One F w wr [] b (setsA m0 (xs.take k))))
  case atStart => exact ⟨0, Lib.hid rfl, Nat.zero_le _, rfl, 0, rfl, by omega, Lib.hid rfl, H3⟩
  case round =>
    obtain ⟨k, HGh, hk, rfl, q, rfl, hq200, HQ, HO⟩ := hrel
    clear H3
    by_cases hlt : k < xs.length
    case neg =>
      have d1 : decide ((k : Int) < (xs.length : Int)) = false := by simp; omega
      have d2 : decide (k < xs.length) = false := decide_eq_false hlt
      obtain ⟨m, hm⟩ : ∃ m, m = setsA m0 (xs.take k) := ⟨_, rfl⟩
      rw [← hm] at HO
      have HS : Hid (SetN 800 q m) := Lib.hid (by rw [hm, HQ.out]; exact sets_at S0.out HGN.out k)
      obtain ⟨N, hN⟩ : ∃ N : Nat, N = 6 + q := ⟨_, rfl⟩
      have HN := Lib.hid hN
      have hN2 : ((6 : Int) + (q : Int)) = (N : Int) := by omega
      have hNb : N ≤ 206 := by omega
      have HTK : Hid (∀ j : Nat, j ≤ N → m.tick + 65536 * j ≤ 1073741824) := Lib.hid (fun j hj => by rw [HS.out.tick]; omega)
      have HRI : Hid (∀ j : Nat, j ≤ N → SetlI (roundsM j m)) := Lib.hid (fun j hj => (rounds_inv HS.out.setl j (HTK.out j hj)).1)
      have HRM : Hid (∀ j : Nat, j ≤ N → MdN 3000 (roundsM j m)) := Lib.hid (fun j hj => (rounds_mdn HS.out.mdn j).up (by omega))
      have HSE := Lib.hid (settled HS.out.setl (n := N) (HTK.out N (Nat.le_refl _)) (by have := HS.out.outs; omega))
      clear hm hk hlt HGh hN HTK HX
      go_wp2
      clear d1 d2
      go_loopg [64] N (fun m' iv wr => ∃ j : Nat, Hid (m' = N - j) ∧ j ≤ N ∧ iv = .int .i64 (j : Int) ∧ Hid (One F w wr [] b (roundsM j m)))
      case atStart => exact ⟨0, Lib.hid rfl, Nat.zero_le _, rfl, HO⟩
      case round =>
        obtain ⟨j, HGj, hj, rfl, HJ⟩ := hrel
        clear HO
        by_cases hlt : j < N
        case pos =>
          have HK := Lib.hid hlt
          have d1 : decide ((j : Int) < (N : Int)) = true := by simp; omega
          have d2 : decide (j < N) = true := decide_eq_true hlt
          obtain ⟨p, hpp⟩ : ∃ p, p = roundsM j m := ⟨_, rfl⟩
          rw [← hpp] at HJ
          have HPN : Hid (MdN 3000 p) := Lib.hid (by rw [hpp]; exact HRM.out j hj)
          have HNX : Hid (roundsM (j + 1) m = roundM p) := Lib.hid (by rw [hpp]; rfl)
          have HRN := Lib.hid (round_mdn HPN.out)
          obtain ⟨rs, hrs⟩ : ∃ c, c = repC p := ⟨_, rfl⟩
          obtain ⟨sc, hsc⟩ : ∃ c, c = stC p.s := ⟨_, rfl⟩
          have HE_sc := Lib.hid hsc
          have HZ_sc : Hid (sc.size = 12) := Lib.hid (by rw [hsc]; rfl)
          have H1_sc : Hid (sc.all (·.oneCell') = true) := Lib.hid (by rw [hsc]; exact stC_one _)
          have hfld : ∀ w, (Instr.field 44 (.agg rs) 1).run Try.prog w = .ok (.agg sc) w := by rw [hrs, hsc]; exact field44s p
          have HQR : Hid (Calls Try.prog 12 #[ptr b] wr fun e w' => e = .returned (.agg rs) ∧ One F w w' [] b p) := Lib.hid (by rw [hrs]; exact one_reply HP.out HJ.out HPN.out)
          obtain ⟨ac, hac⟩ : ∃ x, x = p.s.ac := ⟨_, rfl⟩
          obtain ⟨dl, hdl⟩ : ∃ x, x = p.s.dl := ⟨_, rfl⟩
          have HAC := Lib.hid hac
          have HDL := Lib.hid hdl
          have HA2 : Hid (ac = 0 ∨ ac = 1) := Lib.hid (by rw [hac]; exact (right_in HPN.out.inv.right).1)
          clear hpp hrs hsc hac hdl hlt
          go_wp2_with fail
          refine HQR.out.mono ?_
          rintro e v1 ⟨rfl, h⟩
          have HV1 := Lib.hid h
          clear h HQR HJ
          go_upto_region 19 with (first | (refine wpList_plain rfl fun _ hK => wp_store_row 38 (.tmp 10) (.tmp 68) rfl v1.heap.size sc rfl rfl 38 _ (Rw.new v1 _ 38) (by rw [HZ_sc.out]; exact i12) (by rw [HZ_sc.out]; rfl) H1_sc.out (hK _ _ ?_); clear hK))
          obtain ⟨XS, hX⟩ : ∃ X, X = v1.heap.size := ⟨_, rfl⟩
          rw [← hX]
          refine name_w (fun V => One F w V [(XS, sc, 38)] b p) (by rw [hX]; exact (HV1.out.alloc HP.out.ks _ 38).setRow HP.out.ks sc) ?_
          clear hX HV1 hfld
          rintro v2 h
          have HV2 := Lib.hid h
          clear h
          go_wp2_with fail
          refine (fill_any HP.out _ HV2.out HPN.out).mono ?_
          rintro e v3 ⟨rfl, h⟩
          have HV3 := Lib.hid h
          clear h HV2
          rcases HA2.out with rfl | rfl
          · have HO1 : Hid (orS p.s = p.s.r1) := Lib.hid (by unfold orS; rw [if_pos HAC.out.symm])
            have HR1 : Hid (raS p.s = p.s.r0) := Lib.hid (by unfold raS; rw [if_pos HAC.out.symm])
            have a3 : v3.cell? ⟨XS, 1, none⟩ = some (.int .i64 0) := by rw [HV3.out.row1.cell, HE_sc.out, HAC.out]; rfl
            have b3 : v3.cell? ⟨XS, 2, none⟩ = some (.int .i64 p.s.r0) := by rw [HV3.out.row1.cell, HE_sc.out]; rfl
            have c3 : v3.cell? ⟨XS, 3, none⟩ = some (.int .i64 p.s.r1) := by rw [HV3.out.row1.cell, HE_sc.out]; rfl
            have e3 : v3.cell? ⟨XS, 8, none⟩ = some (.int .i64 dl) := by rw [HV3.out.row1.cell, HE_sc.out, HDL.out]; rfl
            have HC4 : Hid (Calls Try.prog 16 #[ptr b, .agg #[.int .i64 4, .int .i64 p.s.r1, .int .i64 0, .int .i64 0, .bool true]] v3 fun e w' => e = .returned (.int .i64 (opM (fillM p) (opPre (orS p.s) true)).2) ∧ One F w w' [(XS, sc, 38)] b (roundPre p)) := Lib.hid (by
              have h := one_op HP.out HV3.out HRN.out.1 (opPre (orS p.s) true) (fits_opre HPN.out.inv)
              rw [show opV (opPre (orS p.s) true) = .agg #[.int .i64 4, .int .i64 p.s.r1, .int .i64 0, .int .i64 0, .bool true] by rw [HO1.out]; rfl] at h
              exact h)
            clear HA2
            go_wp2_with fail
            refine HC4.out.mono ?_
            rintro e v4 ⟨rfl, h⟩
            have HV4 := Lib.hid h
            clear h HV3 HC4 a3 b3 c3 e3
            have a4 : v4.cell? ⟨XS, 1, none⟩ = some (.int .i64 0) := by rw [HV4.out.row1.cell, HE_sc.out, HAC.out]; rfl
            have b4 : v4.cell? ⟨XS, 2, none⟩ = some (.int .i64 p.s.r0) := by rw [HV4.out.row1.cell, HE_sc.out]; rfl
            have c4 : v4.cell? ⟨XS, 3, none⟩ = some (.int .i64 p.s.r1) := by rw [HV4.out.row1.cell, HE_sc.out]; rfl
            have e4 : v4.cell? ⟨XS, 8, none⟩ = some (.int .i64 dl) := by rw [HV4.out.row1.cell, HE_sc.out, HDL.out]; rfl
            have HC5 : Hid (Calls Try.prog 16 #[ptr b, .agg #[.int .i64 9, .int .i64 p.s.r0, .int .i64 0, .int .i64 0, .bool true]] v4 fun e w' => e = .returned (.int .i64 (opM (roundPre p) (opPost (raS p.s) true)).2) ∧ One F w w' [(XS, sc, 38)] b (roundPost p)) := Lib.hid (by
              have h := one_op HP.out HV4.out HRN.out.2.1 (opPost (raS p.s) true) (fits_opost HPN.out.inv)
              rw [show opV (opPost (raS p.s) true) = .agg #[.int .i64 9, .int .i64 p.s.r0, .int .i64 0, .int .i64 0, .bool true] by rw [HR1.out]; rfl] at h
              exact h)
            go_wp2_with fail
            refine HC5.out.mono ?_
            rintro e v5 ⟨rfl, h⟩
            have HV5 := Lib.hid h
            clear h HV4 HC5 a4 b4 c4 e4
            have a5 : v5.cell? ⟨XS, 1, none⟩ = some (.int .i64 0) := by rw [HV5.out.row1.cell, HE_sc.out, HAC.out]; rfl
            have b5 : v5.cell? ⟨XS, 2, none⟩ = some (.int .i64 p.s.r0) := by rw [HV5.out.row1.cell, HE_sc.out]; rfl
            have c5 : v5.cell? ⟨XS, 3, none⟩ = some (.int .i64 p.s.r1) := by rw [HV5.out.row1.cell, HE_sc.out]; rfl
            have e5 : v5.cell? ⟨XS, 8, none⟩ = some (.int .i64 dl) := by rw [HV5.out.row1.cell, HE_sc.out, HDL.out]; rfl
            go_wp2_with fail
            refine (one_tick HP.out HV5.out HRN.out.2.2.1 dl (by rw [HDL.out]; exact fits_dl HPN.out.inv)).mono ?_
            rintro e v6 ⟨rfl, h⟩
            have HV6 : Hid (One F w v6 [] b (roundTick p)) := Lib.hid (by rw [HDL.out] at h; exact h.nil)
            clear h HV5 a5 b5 c5 e5
            go_wp2_with fail
            refine (one_step HP.out HV6.out HRN.out.2.2.2.1 (by decide) (ints_nil _) (by decide)).mono ?_
            rintro e v7 ⟨rfl, h⟩
            have HV7 : Hid (One F w v7 [] b (roundM p)) := Lib.hid h
            clear h HV6
            go_wp2
            go_roundg (N - (j + 1))
            case measure => have := HGj.out; have := HK.out; omega
            case rel => exact ⟨j + 1, Lib.hid rfl, HK.out, by go_num, Lib.hid (by rw [HNX.out]; exact HV7.out)⟩
          · have HO1 : Hid (orS p.s = p.s.r0) := Lib.hid (by unfold orS; rw [if_neg (by rw [← HAC.out]; decide)])
            have HR1 : Hid (raS p.s = p.s.r1) := Lib.hid (by unfold raS; rw [if_neg (by rw [← HAC.out]; decide)])
            have a3 : v3.cell? ⟨XS, 1, none⟩ = some (.int .i64 1) := by rw [HV3.out.row1.cell, HE_sc.out, HAC.out]; rfl
            have b3 : v3.cell? ⟨XS, 2, none⟩ = some (.int .i64 p.s.r0) := by rw [HV3.out.row1.cell, HE_sc.out]; rfl
            have c3 : v3.cell? ⟨XS, 3, none⟩ = some (.int .i64 p.s.r1) := by rw [HV3.out.row1.cell, HE_sc.out]; rfl
            have e3 : v3.cell? ⟨XS, 8, none⟩ = some (.int .i64 dl) := by rw [HV3.out.row1.cell, HE_sc.out, HDL.out]; rfl
            have HC4 : Hid (Calls Try.prog 16 #[ptr b, .agg #[.int .i64 4, .int .i64 p.s.r0, .int .i64 0, .int .i64 0, .bool true]] v3 fun e w' => e = .returned (.int .i64 (opM (fillM p) (opPre (orS p.s) true)).2) ∧ One F w w' [(XS, sc, 38)] b (roundPre p)) := Lib.hid (by
              have h := one_op HP.out HV3.out HRN.out.1 (opPre (orS p.s) true) (fits_opre HPN.out.inv)
              rw [show opV (opPre (orS p.s) true) = .agg #[.int .i64 4, .int .i64 p.s.r0, .int .i64 0, .int .i64 0, .bool true] by rw [HO1.out]; rfl] at h
              exact h)
            clear HA2
            go_wp2_with fail
            refine HC4.out.mono ?_
            rintro e v4 ⟨rfl, h⟩
            have HV4 := Lib.hid h
            clear h HV3 HC4 a3 b3 c3 e3
            have a4 : v4.cell? ⟨XS, 1, none⟩ = some (.int .i64 1) := by rw [HV4.out.row1.cell, HE_sc.out, HAC.out]; rfl
            have b4 : v4.cell? ⟨XS, 2, none⟩ = some (.int .i64 p.s.r0) := by rw [HV4.out.row1.cell, HE_sc.out]; rfl
            have c4 : v4.cell? ⟨XS, 3, none⟩ = some (.int .i64 p.s.r1) := by rw [HV4.out.row1.cell, HE_sc.out]; rfl
            have e4 : v4.cell? ⟨XS, 8, none⟩ = some (.int .i64 dl) := by rw [HV4.out.row1.cell, HE_sc.out, HDL.out]; rfl
            have HC5 : Hid (Calls Try.prog 16 #[ptr b, .agg #[.int .i64 9, .int .i64 p.s.r1, .int .i64 0, .int .i64 0, .bool true]] v4 fun e w' => e = .returned (.int .i64 (opM (roundPre p) (opPost (raS p.s) true)).2) ∧ One F w w' [(XS, sc, 38)] b (roundPost p)) := Lib.hid (by
              have h := one_op HP.out HV4.out HRN.out.2.1 (opPost (raS p.s) true) (fits_opost HPN.out.inv)
              rw [show opV (opPost (raS p.s) true) = .agg #[.int .i64 9, .int .i64 p.s.r1, .int .i64 0, .int .i64 0, .bool true] by rw [HR1.out]; rfl] at h
              exact h)
            go_wp2_with fail
            refine HC5.out.mono ?_
            rintro e v5 ⟨rfl, h⟩
            have HV5 := Lib.hid h
            clear h HV4 HC5 a4 b4 c4 e4
            have a5 : v5.cell? ⟨XS, 1, none⟩ = some (.int .i64 1) := by rw [HV5.out.row1.cell, HE_sc.out, HAC.out]; rfl
            have b5 : v5.cell? ⟨XS, 2, none⟩ = some (.int .i64 p.s.r0) := by rw [HV5.out.row1.cell, HE_sc.out]; rfl
            have c5 : v5.cell? ⟨XS, 3, none⟩ = some (.int .i64 p.s.r1) := by rw [HV5.out.row1.cell, HE_sc.out]; rfl
            have e5 : v5.cell? ⟨XS, 8, none⟩ = some (.int .i64 dl) := by rw [HV5.out.row1.cell, HE_sc.out, HDL.out]; rfl
            go_wp2_with fail
            refine (one_tick HP.out HV5.out HRN.out.2.2.1 dl (by rw [HDL.out]; exact fits_dl HPN.out.inv)).mono ?_
            rintro e v6 ⟨rfl, h⟩
            have HV6 : Hid (One F w v6 [] b (roundTick p)) := Lib.hid (by rw [HDL.out] at h; exact h.nil)
            clear h HV5 a5 b5 c5 e5
            go_wp2_with fail
            refine (one_step HP.out HV6.out HRN.out.2.2.2.1 (by decide) (ints_nil _) (by decide)).mono ?_
            rintro e v7 ⟨rfl, h⟩
            have HV7 : Hid (One F w v7 [] b (roundM p)) := Lib.hid h
            clear h HV6
            go_wp2
            go_roundg (N - (j + 1))
            case measure => have := HGj.out; have := HK.out; omega
            case rel => exact ⟨j + 1, Lib.hid rfl, HK.out, by go_num, Lib.hid (by rw [HNX.out]; exact HV7.out)⟩
        case neg =>
          have d1 : decide ((j : Int) < (N : Int)) = false := by simp; omega
          have d2 : decide (j < N) = false := decide_eq_false hlt
          obtain rfl : j = N := by omega
          obtain ⟨p, hpp⟩ : ∃ p, p = roundsM j m := ⟨_, rfl⟩
          rw [← hpp] at HJ HSE
          have HPN : Hid (MdN 3000 p) := Lib.hid (by rw [hpp]; exact HRM.out j hj)
          clear hlt hj HGj hpp HRI HRM
          obtain ⟨rr, hrr⟩ : ∃ c, c = repC p := ⟨_, rfl⟩
          have HE_rr := Lib.hid hrr
          have HZ_rr : Hid (rr.size = 21) := Lib.hid (by rw [hrr]; rfl)
          have H1_rr : Hid (rr.all (·.oneCell') = true) := Lib.hid (by rw [hrr]; exact repC_one _)
          have HQ : Hid (Calls Try.prog 12 #[ptr b] wr fun e w' => e = .returned (.agg rr) ∧ One F w w' [] b p) := Lib.hid (by rw [hrr]; exact one_reply HP.out HJ.out HPN.out)
          clear hrr
          go_wp2_with fail
          refine HQ.out.mono ?_
          rintro e v21 ⟨rfl, h⟩
          have HV21 := Lib.hid h
          clear h HQ HJ
          go_upto_region 26 with (first | (refine wpList_plain rfl fun _ hK => wp_store_row 44 (.tmp 11) (.tmp 96) rfl v21.heap.size rr rfl rfl 44 _ (Rw.new v21 _ 44) (by rw [HZ_rr.out]; exact i21) (by rw [HZ_rr.out]; rfl) H1_rr.out (hK _ _ ?_); clear hK))
          obtain ⟨XR, hX⟩ : ∃ X, X = v21.heap.size := ⟨_, rfl⟩
          rw [← hX]
          refine name_w (fun V => One F w V [(XR, rr, 44)] b p) (by rw [hX]; exact (HV21.out.alloc HP.out.ks _ 44).setRow HP.out.ks rr) ?_
          clear hX HV21
          rintro v22 h
          have HV22 := Lib.hid h
          clear h
          have hz := HSE.out
          obtain ⟨ac, hac⟩ : ∃ x, x = p.s.ac := ⟨_, rfl⟩
          have HAC := Lib.hid hac
          have HA2 : Hid (ac = 0 ∨ ac = 1) := Lib.hid (by rw [hac]; exact (right_in HPN.out.inv.right).1)
          have x1 : v22.cell? ⟨XR, 1, none⟩ = some (.int .i64 0) := by rw [HV22.out.row1.cell, HE_rr.out]; rw [← hz.1]; rfl
          have x2 : v22.cell? ⟨XR, 2, none⟩ = some (.int .i64 ac) := by rw [HV22.out.row1.cell, HE_rr.out]; rw [hac]; rfl
          have x13 : v22.cell? ⟨XR, 13, none⟩ = some (.int .i64 ac) := by rw [HV22.out.row1.cell, HE_rr.out]; rw [hac, ← hz.2.2.1]; rfl
          have HWO : Hid (woS p.s = 0) := Lib.hid hz.2.1
          clear hz hac HSE
          rcases HA2.out with rfl | rfl
          · have HW0 : Hid (p.s.w1 = 0) := Lib.hid (by have h := HWO.out; unfold woS at h; rw [if_pos HAC.out.symm] at h; exact h)
            have x5 : v22.cell? ⟨XR, 6, none⟩ = some (.int .i64 0) := by rw [HV22.out.row1.cell, HE_rr.out, ← HW0.out]; rfl
            have x15 : v22.cell? ⟨XR, 16, none⟩ = some (.int .i64 0) := by rw [HV22.out.row1.cell, HE_rr.out, ← HW0.out, ← HPN.out.inv.ll]; rfl
            clear HA2
            go_wp2
            go_ret
            exact ⟨rfl, HV22.out.low⟩
          · have HW0 : Hid (p.s.w0 = 0) := Lib.hid (by have h := HWO.out; unfold woS at h; rw [if_neg (by rw [← HAC.out]; decide)] at h; exact h)
            have x5 : v22.cell? ⟨XR, 5, none⟩ = some (.int .i64 0) := by rw [HV22.out.row1.cell, HE_rr.out, ← HW0.out]; rfl
            have x15 : v22.cell? ⟨XR, 15, none⟩ = some (.int .i64 0) := by rw [HV22.out.row1.cell, HE_rr.out, ← HW0.out, ← HPN.out.inv.lk]; rfl
            clear HA2
            go_wp2
            go_ret
            exact ⟨rfl, HV22.out.low⟩
    case pos =>
      have HK := Lib.hid hlt
      have hk80 : k < 80 := by have := HGN.out.1; omega
      have d1 : decide ((k : Int) < (xs.length : Int)) = true := by simp; omega
      have d2 : decide (k < xs.length) = true := decide_eq_true hlt
      obtain ⟨m, hm⟩ : ∃ m, m = setsA m0 (xs.take k) := ⟨_, rfl⟩
      rw [← hm] at HO
      have HM : Hid (MdN 800 m) := Lib.hid (by rw [hm]; exact (sets_at S0.out HGN.out k).mdn)
      obtain ⟨bb, oo, u, hA, hrg, hui, hfa⟩ := HX.out.kth0 HO.out.low hlt
      subst hA
      obtain ⟨a, ha⟩ : ∃ a, a = xs[k] := ⟨_, rfl⟩
      have HUI : Hid (IntsI w u a.outs) := Lib.hid (by rw [ha]; exact hui)
      have HFA : Hid (FitsA a) := Lib.hid (by rw [ha]; exact hfa)
      have HAO : Hid (a.outs.length ≤ 50) := Lib.hid (by rw [ha]; exact HGN.out.2 xs[k] (List.getElem_mem hlt))
      have HA := Lib.hid ha
      obtain ⟨cs, hcs⟩ : ∃ c, c = amC a u := ⟨_, rfl⟩
      have HRG : Hid (wr.rangeAt bb (oo + k * 10) cs.toList) := Lib.hid (by rw [hcs, ha]; exact hrg)
      have HZC : Hid (cs.size = 10) := Lib.hid (by rw [hcs]; rfl)
      have H1C : Hid (cs.all (·.oneCell') = true) := Lib.hid (by
        obtain ⟨A', c', hu⟩ := IntsI.shape hui
        rw [hcs, hu]
        exact amC_one _ _ _ _)
      have HCS := Lib.hid hcs
      have HDO : Hid (∀ L V, One F w V L b m → Calls Try.prog 13 #[ptr b, .agg cs] V fun e w' => e = .returned (.int .i64 (actM m a).2) ∧ One F w w' L b (actM m a).1) := Lib.hid (fun L V h => by rw [hcs]; exact do_any HP.out a u h HM.out (by decide) (HUI.out.under h.low (Nat.le_refl _)) HFA.out (Nat.le_trans HAO.out (by decide)))
      have HMQ := Lib.hid hm
      clear hm hrg hui hfa ha hcs hlt
      go_upto_region 10 with (first | (refine load_mid (by rfl) 34 (.tmp 46) rfl bb (oo + k * 10) rfl cs _ HRG.out Try.underlying34 rfl (by rw [HZC.out]; exact i10) ?_) | (refine wpList_plain rfl fun _ hK => wp_store_row 34 (.tmp 9) (.tmp 47) rfl wr.heap.size cs rfl rfl 34 _ (Rw.new wr _ 34) (by rw [HZC.out]; exact i10) (by rw [HZC.out]; rfl) H1C.out (hK _ _ ?_); clear hK))
      obtain ⟨XA, hX⟩ : ∃ X, X = wr.heap.size := ⟨_, rfl⟩
      rw [← hX]
      refine name_w (fun V => One F w V [(XA, cs, 34)] b m) (by rw [hX]; exact (HO.out.alloc HP.out.ks _ 34).setRow HP.out.ks cs) ?_
      clear hX HO HRG
      rintro v0 h
      have HV0 := Lib.hid h
      clear h
      have HNX : Hid (setsA m0 (xs.take (k + 1)) = setA m a) := Lib.hid (by rw [HMQ.out, HA.out]; exact sets_take m0 xs k HK.out)
      obtain ⟨n, hn⟩ : ∃ n, n = a.outs.length := ⟨_, rfl⟩
      have HNQ : Hid (moreA (xs.take (k + 1)) = q + n) := Lib.hid (by rw [hn, HQ.out, HA.out]; exact more_take xs k HK.out)
      have hn50 : n ≤ 50 := by rw [hn]; exact HAO.out
      obtain ⟨kd, hkd⟩ : ∃ x, x = a.kind := ⟨_, rfl⟩
      have HKD := Lib.hid hkd
      obtain ⟨A', c', hu⟩ := IntsI.shape HUI.out
      have x9 : v0.cell? ⟨XA, 9, none⟩ = some (.slice A' n c') := by rw [HV0.out.row1.cell, HCS.out, hu, hn]; rfl
      have x0 : v0.cell? ⟨XA, 0, none⟩ = some (.int .i64 kd) := by rw [HV0.out.row1.cell, HCS.out, hkd]; rfl
      obtain ⟨t, ht⟩ : ∃ t, t = q + n := ⟨_, rfl⟩
      have HT := Lib.hid ht
      have eqn : ((q : Int) + (n : Int)) = (t : Int) := by omega
      have ht250 : t ≤ 250 := by omega
      rw [← ht] at HNQ
      clear ht hq200 hn50
      clear hu hn hkd
      by_cases h200 : 200 < t
      case pos =>
        have g1 : decide ((200 : Int) < (t : Int)) = true := by simp; omega
        have g2 : decide (200 < t) = true := decide_eq_true h200
        clear h200
        go_wp2
        go_ret
        exact ⟨rfl, HV0.out.low⟩
      have g1 : decide ((200 : Int) < (t : Int)) = false := by simp; omega
      have g2 : decide (200 < t) = false := decide_eq_false h200
      have HT2 : Hid (t ≤ 200) := Lib.hid (by omega)
      clear h200
      by_cases h4 : kd = 4
      case pos =>
        subst h4
        have HSA : Hid (setA m a = m) := Lib.hid (by unfold setA; rw [if_pos HKD.out.symm])
        go_wp2
        go_roundg (xs.length - (k + 1))
        case measure => have := HGh.out; have := HK.out; omega
        case rel => exact ⟨k + 1, Lib.hid rfl, HK.out, by go_num, t, by first | rfl | go_num | (simp; done), HT2.out, Lib.hid HNQ.out.symm, Lib.hid (by rw [HNX.out, HSA.out]; exact HV0.out.nil)⟩
      have k1 : (kd == 4) = false := beq_eq_false_iff_ne.2 h4
      have k2 : (kd != 4) = true := by rw [bne, k1]; rfl
      have HSA : Hid (setA m a = (actM m a).1) := Lib.hid (by unfold setA; rw [if_neg (by rw [← HKD.out]; exact h4)])
      clear h4
      obtain ⟨m1, hm1⟩ : ∃ x, x = (actM m a).1 := ⟨_, rfl⟩
      obtain ⟨r1, hr1⟩ : ∃ x, x = (actM m a).2 := ⟨_, rfl⟩
      have HM1 : Hid (MdN 810 m1) := Lib.hid (by rw [hm1]; exact HM.out.act a (Nat.le_trans HAO.out (by decide)))
      have HD1 := Lib.hid (HDO.out _ _ HV0.out)
      rw [← hm1, ← hr1] at HD1
      have Hm1 := Lib.hid hm1
      have Hr1 := Lib.hid hr1
      clear hm1 hr1 HDO
      go_wp2_with (first | (refine wpList_load_any (by rfl) 34 (.tmp 9) rfl XA rfl 34 cs (0, 0) _ HV0.out.row1 Try.underlying34 rfl (by rw [HZC.out]; exact i10) ?_))
      refine HD1.out.mono ?_
      rintro e v1 ⟨rfl, h⟩
      have HV1 := Lib.hid h
      clear h HD1 HV0
      go_wp2
      go_roundg (xs.length - (k + 1))
      case measure => have := HGh.out; have := HK.out; omega
      case rel => exact ⟨k + 1, Lib.hid rfl, HK.out, by go_num, t, by first | rfl | go_num | (simp; done), HT2.out, Lib.hid HNQ.out.symm, Lib.hid (by rw [HNX.out, HSA.out, ← Hm1.out]; exact HV1.out.nil)⟩
end Go.Proofs.Ytchaeidmjoelnaa.modelSettles
