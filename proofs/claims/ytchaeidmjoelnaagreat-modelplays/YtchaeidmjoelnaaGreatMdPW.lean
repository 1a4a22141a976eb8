/-
  switchback's ModelPlays: by every script of operations, steps, replicas that are ready or not, ticks and router's outcomes what is told, the state, the route and the fleet are what the document's own model says. For every input the law returns true, and each argument reads afterwards as it read before. No condition beside the row's own.
-/
import Derived.Test.YtchaeidmjoelnaaGreatDcB
import Derived.Test.YtchaeidmjoelnaaGreatMdC
import Derived.Deep.LoopGhost
import Derived.Deep.Cut
import Derived.Deep.CutBlock
import Derived.Deep.CutRange
import Derived.Deep.RegionHeld3
import Derived.Deep.QuietTactic
import Derived.BigQuiet
namespace Go.Proofs.YtchaeidmjoelnaaGreat.modelPlays
open Go.Proofs.YtchaeidmjoelnaaGreat
open Go.ChangeShapes Go.WideShapes Go.ChangeAt Go.RowKit
set_option linter.unusedVariables false

set_option maxRecDepth 100000 in
set_option maxHeartbeats 16000000 in
theorem walk {F : ObIn Md} (hp : PkgMd F) (v : Value) (xs : List Am) (ca cb cc : Int) (w : World) (hx : ActsI w v xs) (fa : Fits ca) (fb : Fits cb) (fc : Fits cc) : Calls Tryz.prog 3 #[.agg #[.int .i64 ca, .int .i64 cb, .int .i64 cc], v] w (Holds w) := by
  obtain ⟨A0, c0, rfl⟩ := hx.shape
  have HP := Lib.hid hp
  have HX := Lib.hid hx
  have HF := Lib.hid (And.intro fa (And.intro fb fc))
  have HAW : Hid (∀ W, Calls Tryz.prog 4 #[] W fun e w' => e = .returned (.bool true) ∧ Below W.heap.size W w') := Lib.hid (awake_any hp)
  obtain ⟨gr, hgr⟩ : ∃ b, b = greatB xs := ⟨_, rfl⟩
  have HGR : Hid (∀ W, Below w.heap.size w W → Calls Tryz.prog 5 #[.slice A0 xs.length c0] W fun e w' => e = .returned (.bool gr) ∧ Below W.heap.size W w') := Lib.hid (fun W hb => by rw [hgr]; exact great_any _ _ _ (hx.under hb))
  have HG := Lib.hid hgr
  obtain ⟨sf, hsf⟩ : ∃ s, s = firstS ca cb := ⟨_, rfl⟩
  have HSF := Lib.hid hsf
  have HFI : Hid (∀ W, Calls Tryz.prog 7 #[.int .i64 ca, .int .i64 cb] W fun e w' => e = .returned (.agg (stC sf)) ∧ Below W.heap.size W w') := Lib.hid (fun W => by rw [hsf]; exact mfirst_any ca cb W)
  obtain ⟨rt, hrt⟩ : ∃ x, x = rightS sf := ⟨_, rfl⟩
  have HRT : Hid (∀ W, Calls Tryz.prog 8 #[.agg (stC sf)] W fun e w' => e = .returned (.bool rt) ∧ Below W.heap.size W w') := Lib.hid (fun W => by rw [hrt]; exact mright_any sf W)
  have HR := Lib.hid hrt
  clear hp hx fa fb fc hgr hsf hrt
  go_enter Tryz.func3, Tryz.ntmps3
  go_upto_region 1 with (fail)
  obtain ⟨C, hC⟩ : ∃ C, C = w.heap.size := ⟨_, rfl⟩
  rw [← hC]
  refine name_w (fun V => Rw V C #[.int .i64 ca, .int .i64 cb, .int .i64 cc] 22 ∧ Below w.heap.size w V ∧ w.heap.size ≤ C) ⟨by rw [hC]; exact Rw.new _ _ _, (Below.refl _ _).alloc (Nat.le_refl _) _, Nat.le_of_eq hC.symm⟩ ?_
  clear hC
  rintro u0 ⟨h1, h2, h3⟩
  have RC0 := Lib.hid h1
  have HB0 := Lib.hid h2
  have HCG := Lib.hid h3
  clear h1 h2 h3
  go_wp2_with fail
  refine (HAW.out _).mono ?_
  rintro e u1 ⟨rfl, hb⟩
  have RC1 := Lib.hid (RC0.out.under hb RC0.out.lt)
  have HB1 := Lib.hid (HB0.out.trans (hb.mono HB0.out.size))
  clear hb RC0 HB0
  go_wp2_with fail
  refine (HGR.out _ HB1.out).mono ?_
  rintro e u2 ⟨rfl, hb⟩
  have RC2 := Lib.hid (RC1.out.under hb RC1.out.lt)
  have HB2 := Lib.hid (HB1.out.trans (hb.mono HB1.out.size))
  clear hb RC1 HB1
  cases gr with
  | true =>
    clear RC2
    go_wp2_with fail
    refine (HAW.out _).mono ?_
    rintro e u3 ⟨rfl, hb⟩
    have HB3 := Lib.hid (HB2.out.trans (hb.mono HB2.out.size))
    clear hb HB2
    go_wp2
    go_ret
    exact ⟨rfl, HB3.out⟩
  | false =>
  have HGN := Lib.hid (great_no HG.out.symm)
  have k0 : u2.cell? ⟨C, 0, none⟩ = some (.int .i64 ca) := by rw [RC2.out.cell]; rfl
  have k1 : u2.cell? ⟨C, 1, none⟩ = some (.int .i64 cb) := by rw [RC2.out.cell]; rfl
  have k2 : u2.cell? ⟨C, 2, none⟩ = some (.int .i64 cc) := by rw [RC2.out.cell]; rfl
  clear HAW HGR HG
  go_wp2_with fail
  refine (HP.out.new ca cb cc u2 HF.out.1 HF.out.2.1 HF.out.2.2).mono ?_
  rintro e u3 hnew
  rw [← HSF.out, ← HR.out] at hnew
  rcases hnew with ⟨hr, b, rfl, hn⟩ | ⟨hr, rfl, hb⟩
  case inr =>
    subst hr
    have RC3 := Lib.hid (RC2.out.under hb RC2.out.lt)
    have HB3 := Lib.hid (HB2.out.trans (hb.mono HB2.out.size))
    clear hb HB2 k0 k1 k2 RC2
    have k0 : u3.cell? ⟨C, 0, none⟩ = some (.int .i64 ca) := by rw [RC3.out.cell]; rfl
    have k1 : u3.cell? ⟨C, 1, none⟩ = some (.int .i64 cb) := by rw [RC3.out.cell]; rfl
    go_wp2_with fail
    refine (HFI.out _).mono ?_
    rintro e u4 ⟨rfl, hb⟩
    have HB4 := Lib.hid (HB3.out.trans (hb.mono HB3.out.size))
    clear hb HB3 k0 k1 RC3
    go_upto_region 5 with (first | (refine wpList_plain rfl fun _ hK => wp_store_row 33 (.tmp 7) (.tmp 33) rfl u4.heap.size (stC sf) rfl rfl 33 _ (Rw.new u4 _ 33) i12 rfl (stC_one _) (hK _ _ ?_); clear hK))
    obtain ⟨XS, hXS⟩ : ∃ x, x = u4.heap.size := ⟨_, rfl⟩
    rw [← hXS]
    refine name_w (fun V => Rw V XS (stC sf) 33 ∧ Below w.heap.size w V) ⟨by rw [hXS]; exact (Rw.new u4 _ 33).set _, by rw [hXS]; exact HB4.out.trans ((below_setRow ((Below.refl u4.heap.size u4).alloc (Nat.le_refl _) _) (Nat.le_refl _) _).mono HB4.out.size)⟩ ?_
    clear hXS HB4
    rintro u5 ⟨h1, h2⟩
    have RS := Lib.hid h1
    have HB5 := Lib.hid h2
    clear h1 h2
    go_wp2_with (first | (refine wpList_load_any (by rfl) 33 (.tmp 7) rfl XS rfl 33 (stC sf) (0, 0) _ RS.out Tryz.underlying33 rfl i12 ?_))
    refine (HRT.out _).mono ?_
    rintro e u6 ⟨rfl, hb⟩
    have HB6 := Lib.hid (HB5.out.trans (hb.mono HB5.out.size))
    clear hb HB5 RS
    go_wp2
    go_ret
    exact ⟨rfl, HB6.out⟩
  subst hr
  obtain ⟨m0, hm0⟩ : ∃ m, m = newM sf cc := ⟨_, rfl⟩
  have HM0 := Lib.hid hm0
  have N0 : Hid (MdN 0 m0) := Lib.hid (by rw [hm0, HSF.out]; exact mdn_new (by rw [← HSF.out]; exact HR.out.symm))
  have H3 : Hid (One F w u3 [] b m0) := Lib.hid (by rw [hm0]; exact hn.one HB2.out)
  have RC3 : Hid (Rw u3 C #[.int .i64 ca, .int .i64 cb, .int .i64 cc] 22) := Lib.hid (by obtain ⟨_, _, _, hb⟩ := hn; exact RC2.out.under hb RC2.out.lt)
  clear hn hm0 HB2 RC2 k0 k1 k2 HF
  have k0 : u3.cell? ⟨C, 0, none⟩ = some (.int .i64 ca) := by rw [RC3.out.cell]; rfl
  have k1 : u3.cell? ⟨C, 1, none⟩ = some (.int .i64 cb) := by rw [RC3.out.cell]; rfl
  go_wp2_with fail
  refine (HFI.out _).mono ?_
  rintro e u4 ⟨rfl, hb⟩
  have H4 := Lib.hid (H3.out.keep HP.out.ks hb)
  have RC4 := Lib.hid (RC3.out.under hb RC3.out.lt)
  clear hb H3 k0 k1 RC3
  go_upto_region 5 with (first | (refine wpList_plain rfl fun _ hK => wp_store_row 33 (.tmp 7) (.tmp 33) rfl u4.heap.size (stC sf) rfl rfl 33 _ (Rw.new u4 _ 33) i12 rfl (stC_one _) (hK _ _ ?_); clear hK))
  obtain ⟨XS, hXS⟩ : ∃ x, x = u4.heap.size := ⟨_, rfl⟩
  rw [← hXS]
  refine name_w (fun V => One F w V [(XS, stC sf, 33)] b m0 ∧ Rw V C #[.int .i64 ca, .int .i64 cb, .int .i64 cc] 22) ⟨by rw [hXS]; exact (H4.out.alloc HP.out.ks _ 33).setRow HP.out.ks _, (setRow_block _ XS C _ (by have := RC4.out.lt; omega)).trans (RC4.out.alloc _)⟩ ?_
  clear hXS H4 RC4
  rintro u5 ⟨h1, h2⟩
  have H5 := Lib.hid h1
  have RC5 := Lib.hid h2
  clear h1 h2
  go_wp2_with (first | (refine wpList_load_any (by rfl) 33 (.tmp 7) rfl XS rfl 33 (stC sf) (0, 0) _ H5.out.row1 Tryz.underlying33 rfl i12 ?_))
  refine (HRT.out _).mono ?_
  rintro e u6 ⟨rfl, hb⟩
  have H6 := Lib.hid (H5.out.keep HP.out.ks hb)
  have RC6 := Lib.hid (RC5.out.under hb RC5.out.lt)
  clear hb H5 RC5
  have k2 : u6.cell? ⟨C, 2, none⟩ = some (.int .i64 cc) := by rw [RC6.out.cell]; rfl
  go_wp2_with (first | (refine wpList_load_any (by rfl) 33 (.tmp 7) rfl XS rfl 33 (stC sf) (0, 0) _ H6.out.row1 Tryz.underlying33 rfl i12 ?_))
  refine (dnew_any sf cc _).mono ?_
  rintro e u7 ⟨c, rfl, hn⟩
  rw [← HM0.out] at hn
  have H7 : Hid (One (Duo F DcP c) w u7 [] b (m0, m0)) := Lib.hid (one_join HP.out.ks dcp_keeps H6.out.nil hn)
  clear hn H6 k2 RC6 HFI HRT HR HSF HM0
  go_wp2
  go_loopg [55] xs.length (fun m' iv wr => ∃ k : Nat, Hid (m' = xs.length - k) ∧ k ≤ xs.length ∧ iv = .int .i64 (k : Int) ∧ Hid (One (Duo F DcP c) w wr [] b (actsM m0 (xs.take k), actsM m0 (xs.take k))))
  case atStart => exact ⟨0, Lib.hid rfl, Nat.zero_le _, rfl, H7⟩
  case round =>
    obtain ⟨k, HGh, hk, rfl, HO⟩ := hrel
    clear H7
    by_cases hlt : k < xs.length
    case neg =>
      have d1 : decide ((k : Int) < (xs.length : Int)) = false := by simp; omega
      have d2 : decide (k < xs.length) = false := decide_eq_false hlt
      obtain rfl : k = xs.length := by omega
      clear hk hlt HGh
      go_wp2
      go_ret
      exact ⟨rfl, HO.out.low⟩
    case pos =>
    have HK := Lib.hid hlt
    have hk80 : k < 80 := by have := HGN.out.1; omega
    have d1 : decide ((k : Int) < (xs.length : Int)) = true := by simp; omega
    have d2 : decide (k < xs.length) = true := decide_eq_true hlt
    obtain ⟨m, hm⟩ : ∃ m, m = actsM m0 (xs.take k) := ⟨_, rfl⟩
    rw [← hm] at HO
    have HM : Hid (MdN 800 m) := Lib.hid (by rw [hm]; exact mdn_take N0.out HGN.out k hk)
    obtain ⟨bb, oo, u, hA, hrg, hui, hfa⟩ := HX.out.kth0 HO.out.low hlt
    subst hA
    obtain ⟨a, ha⟩ : ∃ a, a = xs[k] := ⟨_, rfl⟩
    have HUI : Hid (IntsI w u a.outs) := Lib.hid (by rw [ha]; exact hui)
    have HFA : Hid (FitsA a) := Lib.hid (by rw [ha]; exact hfa)
    have HAO : Hid (a.outs.length ≤ 50) := Lib.hid (by rw [ha]; exact HGN.out.2 xs[k] (List.getElem_mem hlt))
    have HA := Lib.hid ha
    obtain ⟨cs, hcs⟩ : ∃ c, c = amC a u := ⟨_, rfl⟩
    have HRG : Hid (wr.rangeAt bb (oo + k * 10) cs.toList) := Lib.hid (by rw [hcs, ha]; exact hrg)
    have HZC : Hid (cs.size = 10) := Lib.hid (by rw [hcs]; rfl)
    have H1C : Hid (cs.all (·.oneCell') = true) := Lib.hid (by
      obtain ⟨A', c', hu⟩ := IntsI.shape hui
      rw [hcs, hu]
      exact amC_one _ _ _ _)
    have HCS := Lib.hid hcs
    obtain ⟨m1, hm1⟩ : ∃ x, x = (actM m a).1 := ⟨_, rfl⟩
    obtain ⟨r1, hr1⟩ : ∃ x, x = (actM m a).2 := ⟨_, rfl⟩
    have HEQ : Hid (actM m a = (m1, r1)) := Lib.hid (by rw [hm1, hr1])
    have HM1 : Hid (MdN 810 m1) := Lib.hid (by rw [hm1]; exact HM.out.act a (Nat.le_trans HAO.out (by decide)))
    have HDO : Hid (∀ r L V, One (Duo F DcP c) w V L b (m, r) → Calls Tryz.prog 15 #[ptr b, .agg cs] V fun e w' => e = .returned (.int .i64 r1) ∧ One (Duo F DcP c) w w' L b (m1, r)) := Lib.hid (fun r L V h => by
      rw [hcs, hr1, hm1]
      exact (do_any (pkgop_fix HP.out.toPkgOp dcp_keeps) a u (one_fix h) HM.out (by decide) (HUI.out.under h.low (Nat.le_refl _)) HFA.out (Nat.le_trans HAO.out (by decide))).mono fun e w' ⟨he, h1⟩ => ⟨he, one_unfix h1⟩)
    have HNX : Hid (actsM m0 (xs.take (k + 1)) = m1) := Lib.hid (by rw [hm1, hm, ha]; exact acts_take m0 xs k hlt)
    obtain ⟨kd, hkd⟩ : ∃ x, x = a.kind := ⟨_, rfl⟩
    have HKD := Lib.hid hkd
    clear hm hrg hui hfa ha hcs hlt hm1 hr1 hkd
    go_upto_region 13 with (first | (refine load_mid (by rfl) 42 (.tmp 57) rfl bb (oo + k * 10) rfl cs _ HRG.out Tryz.underlying42 rfl (by rw [HZC.out]; exact i10) ?_) | (refine wpList_plain rfl fun _ hK => wp_store_row 42 (.tmp 10) (.tmp 58) rfl wr.heap.size cs rfl rfl 42 _ (Rw.new wr _ 42) (by rw [HZC.out]; exact i10) (by rw [HZC.out]; rfl) H1C.out (hK _ _ ?_); clear hK))
    obtain ⟨XA, hX⟩ : ∃ X, X = wr.heap.size := ⟨_, rfl⟩
    rw [← hX]
    refine name_w (fun V => One (Duo F DcP c) w V [(XA, cs, 42)] b (m, m)) (by rw [hX]; exact (HO.out.alloc (duo_keeps HP.out.ks dcp_keeps) _ 42).setRow (duo_keeps HP.out.ks dcp_keeps) cs) ?_
    clear hX HO HRG
    rintro v0 h
    have HV0 := Lib.hid h
    clear h
    have x0 : v0.cell? ⟨XA, 0, none⟩ = some (.int .i64 kd) := by rw [HV0.out.row1.cell, HCS.out, HKD.out]; rfl
    have x1 : v0.cell? ⟨XA, 1, none⟩ = some (.int .i64 a.slot) := by rw [HV0.out.row1.cell, HCS.out]; rfl
    have x2 : v0.cell? ⟨XA, 2, none⟩ = some (.int .i64 a.num) := by rw [HV0.out.row1.cell, HCS.out]; rfl
    have x3 : v0.cell? ⟨XA, 3, none⟩ = some (.bool a.on) := by rw [HV0.out.row1.cell, HCS.out]; rfl
    have x9 : v0.cell? ⟨XA, 9, none⟩ = some u := by rw [HV0.out.row1.cell, HCS.out]; rfl
    have HOP : Hid (v0.rangeAt XA 4 (opC a.op).toList) := Lib.hid (HV0.out.row1.range _ (fun j v hv => by
      rw [HCS.out]
      match j, hv with
      | 0, hv | 1, hv | 2, hv | 3, hv | 4, hv => exact hv
      | j + 5, hv => simp [opC] at hv))
    go_upto_block 2 with (fail)
    go_cut [11] from 61 to 92 (fun sv W => sv = .int .i64 r1 ∧ One (Duo F DcP c) w W [(XA, cs, 42)] b (m, m1))
    case rest =>
      obtain ⟨rfl, h⟩ := hcut
      have HC := Lib.hid h
      clear h HV0 x0 x1 x2 x3 x9 HOP
      have hrr : (r1 != r1) = false := by simp
      obtain ⟨rs, hrs⟩ : ∃ c, c = repC m1 := ⟨_, rfl⟩
      have HRS := Lib.hid hrs
      have hqs : ∀ w, (Op.equalIn 10000 59 (.agg rs) (.agg rs)).run Tryz.prog w = .ok true w := by rw [hrs]; exact eq44 HM1.out.inv.fits
      go_wp2_with (first | (refine wpList_load_any (by rfl) 42 (.tmp 10) rfl XA rfl 42 cs (0, 0) _ HC.out.row1 Tryz.underlying42 rfl (by rw [HZC.out]; exact i10) ?_))
      refine (HDO.out _ _ _ HC.out).mono ?_
      rintro e y1 ⟨rfl, h⟩
      have HY1 := Lib.hid h
      clear h HC
      have HQ1 : Hid (Calls Tryz.prog 16 #[ptr b] y1 fun e w' => e = .returned (.agg rs) ∧ One (Duo F DcP c) w w' [(XA, cs, 42)] b (m1, m1)) := Lib.hid (by
        rw [hrs]
        exact (one_reply (pkgop_fix HP.out.toPkgOp dcp_keeps) (one_fix HY1.out) HM1.out).mono fun e w' ⟨he, h1⟩ => ⟨he, one_unfix h1⟩)
      clear hrs
      go_wp2_with fail
      refine HQ1.out.mono ?_
      rintro e y2 ⟨rfl, h⟩
      have HY2 := Lib.hid h
      clear h HY1 HQ1
      have HQ2 : Hid (Calls Tryz.prog 17 #[ptr c] y2 fun e w' => e = .returned (.agg rs) ∧ One (Duo F DcP c) w w' [(XA, cs, 42)] b (m1, m1)) := Lib.hid (by
        rw [HRS.out]
        exact one_snd HP.out.ks dcp_keeps dcp_keeps HY2.out (fun _ h => dreply_p h))
      go_wp2_with fail
      refine HQ2.out.mono ?_
      rintro e y3 ⟨rfl, h⟩
      have HY3 := Lib.hid h
      clear h HY2 HQ2
      go_wp2
      go_roundg (xs.length - (k + 1))
      case measure => have := HGh.out; have := HK.out; omega
      case rel => exact ⟨k + 1, Lib.hid rfl, HK.out, by go_num, Lib.hid (by rw [HNX.out]; exact HY3.out.nil)⟩
    case first =>
      clear HDO HNX
      by_cases k1 : kd = 1
      case pos =>
        have e1 : (kd == 1) = true := by rw [k1]; exact beq_self_eq_true _
        have K1 := Lib.hid (HKD.out.symm.trans k1)
        clear k1
        have HE : Hid (opM m a.op = (m1, r1)) := Lib.hid (by rw [← HEQ.out]; unfold actM; rw [if_pos K1.out])
        have HC1 := Lib.hid (one_snd HP.out.ks dcp_keeps dcp_keeps HV0.out (fun _ h => dop_any a.op h HM.out.inv))
        rw [HE.out] at HC1
        go_wp2_with (first | (refine load_mid (by rfl) 39 (.tmp 64) rfl XA 4 rfl (opC a.op) _ HOP.out Tryz.underlying39 rfl i5 ?_))
        refine HC1.out.mono ?_
        rintro e v1 ⟨rfl, h⟩
        have HV1 := Lib.hid h
        clear h HC1 HV0 x0 x1 x2 x3 x9 HOP
        go_wp2
        go_meet
        case rel => exact ⟨rfl, HV1.out⟩
      have e1 : (kd == 1) = false := beq_eq_false_iff_ne.2 k1
      have K1 := Lib.hid (fun h => k1 (HKD.out.trans h))
      clear k1
      by_cases k2 : kd = 2
      case pos =>
        have e2 : (kd == 2) = true := by rw [k2]; exact beq_self_eq_true _
        have K2 := Lib.hid (HKD.out.symm.trans k2)
        clear k2
        have HE : Hid (stepM m a.outs = (m1, r1)) := Lib.hid (by rw [← HEQ.out]; unfold actM; rw [if_neg K1.out, if_pos K2.out])
        have HC1 := Lib.hid (one_snd HP.out.ks dcp_keeps dcp_keeps HV0.out (fun _ h => dstep_any 800 u a.outs h HM.out.inv HM.out.bd (by decide) (HUI.out.under HV0.out.low (Nat.le_refl _)) (Nat.le_trans HAO.out (by decide))))
        rw [HE.out] at HC1
        go_wp2_with fail
        refine HC1.out.mono ?_
        rintro e v1 ⟨rfl, h⟩
        have HV1 := Lib.hid h
        clear h HC1 HV0 x0 x1 x2 x3 x9 HOP
        go_wp2
        go_meet
        case rel => exact ⟨rfl, HV1.out⟩
      have e2 : (kd == 2) = false := beq_eq_false_iff_ne.2 k2
      have K2 := Lib.hid (fun h => k2 (HKD.out.trans h))
      clear k2
      by_cases k3 : kd = 3
      case pos =>
        have e3 : (kd == 3) = true := by rw [k3]; exact beq_self_eq_true _
        have K3 := Lib.hid (HKD.out.symm.trans k3)
        clear k3
        obtain ⟨bv, hbv⟩ : ∃ v, v = decide (isW (slotK a.slot m.k m.l) a.num) := ⟨_, rfl⟩
        have HE : Hid ((readyM m a.slot a.num a.on, if bv = true then (1 : Int) else 0) = (m1, r1)) := Lib.hid (by rw [← HEQ.out]; unfold actM; rw [if_neg K1.out, if_neg K2.out, if_pos K3.out, hbv]; simp only [decide_eq_true_eq])
        obtain ⟨fb, hfb, _⟩ := one_fb HV0.out
        have HVF := Lib.hid hfb
        clear hfb HV0
        go_upto_region 20 with (fail)
        have HD0 := Lib.hid (HVF.out.drew (duo_keeps HP.out.ks (dcf_keeps fb)))
        clear HVF x0 x1 x2 x3 x9 HOP
        refine wp_region_held_drew (S := fun Wx => Wx.cell? ⟨c, 12, none⟩ = some (ptr fb) ∧ Wx.cell? ⟨XA, 1, none⟩ = some (.int .i64 a.slot) ∧ Wx.cell? ⟨XA, 2, none⟩ = some (.int .i64 a.num) ∧ Wx.cell? ⟨XA, 3, none⟩ = some (.bool a.on)) (by kernel_rfl) ⟨one_cF HD0.out, by rw [HD0.out.row1.cell, HCS.out]; rfl, by rw [HD0.out.row1.cell, HCS.out]; rfl, by rw [HD0.out.row1.cell, HCS.out]; rfl⟩ (fun hHeld => ?_)
        refine wpAnyH_take (i := 0) (oi := { dst := some 75, op := Op.move (Operand.tmp 8), type := 36, pos := "law.go:89", after := #[], guard := none }) (v := ?_) rfl (by kernel_rfl) (by kernel_rfl) (by kernel_rfl) (fun _ _ _ h => h) (Or.inl ⟨by rfl, ?_⟩) hHeld ?_
        rotate_left
        · rintro Wx ⟨hS0, hS1, hS2, hS3⟩
          first | (go_simp; done) | (go_simp; with_reducible rfl)
        (try simp only [Act.put, List.setIfInBounds_toArray, List.set_cons_zero, List.set_cons_succ])
        refine wpAnyH_take (i := 1) (oi := { dst := some 76, op := Op.nilCheck (Operand.tmp 75), type := 0, pos := "law.go:89", after := #[{ on := 0, ground := Ground.data }], guard := none }) (v := ?_) rfl (by kernel_rfl) (by kernel_rfl) (by kernel_rfl) (fun _ _ _ h => h) (Or.inl ⟨by rfl, ?_⟩) hHeld ?_
        rotate_left
        · rintro Wx ⟨hS0, hS1, hS2, hS3⟩
          first | (go_simp; done) | (go_simp; with_reducible rfl)
        (try simp only [Act.put, List.setIfInBounds_toArray, List.set_cons_zero, List.set_cons_succ])
        refine wpAnyH_take (i := 2) (oi := { dst := some 77, op := Op.fieldAddr 49 (Operand.tmp 76) 1, type := 0, pos := "law.go:89", after := #[{ on := 1, ground := Ground.data }], guard := none }) (v := ?_) rfl (by kernel_rfl) (by kernel_rfl) (by kernel_rfl) (fun _ _ _ h => h) (Or.inl ⟨by rfl, ?_⟩) hHeld ?_
        rotate_left
        · rintro Wx ⟨hS0, hS1, hS2, hS3⟩
          first | (go_simp; done) | (go_simp; with_reducible rfl)
        (try simp only [Act.put, List.setIfInBounds_toArray, List.set_cons_zero, List.set_cons_succ])
        refine wpAnyH_take (i := 3) (oi := { dst := some 78, op := Op.load 46 (Operand.tmp 77), type := 46, pos := "law.go:89", after := #[{ on := 2, ground := Ground.data }], guard := none }) (v := ?_) rfl (by kernel_rfl) (by kernel_rfl) (by kernel_rfl) (fun _ _ _ h => h) (Or.inl ⟨by rfl, ?_⟩) hHeld ?_
        rotate_left
        · rintro Wx ⟨hS0, hS1, hS2, hS3⟩
          first | (go_simp; done) | (go_simp; with_reducible rfl)
        (try simp only [Act.put, List.setIfInBounds_toArray, List.set_cons_zero, List.set_cons_succ])
        refine wpAnyH_take (i := 4) (oi := { dst := some 79, op := Op.fieldAddr 42 (Operand.tmp 10) 1, type := 0, pos := "law.go:89", after := #[], guard := none }) (v := ?_) rfl (by kernel_rfl) (by kernel_rfl) (by kernel_rfl) (fun _ _ _ h => h) (Or.inl ⟨by rfl, ?_⟩) hHeld ?_
        rotate_left
        · rintro Wx ⟨hS0, hS1, hS2, hS3⟩
          first | (go_simp; done) | (go_simp; with_reducible rfl)
        (try simp only [Act.put, List.setIfInBounds_toArray, List.set_cons_zero, List.set_cons_succ])
        refine wpAnyH_take (i := 5) (oi := { dst := some 80, op := Op.load 3 (Operand.tmp 79), type := 3, pos := "law.go:89", after := #[{ on := 4, ground := Ground.data }], guard := none }) (v := ?_) rfl (by kernel_rfl) (by kernel_rfl) (by kernel_rfl) (fun _ _ _ h => h) (Or.inl ⟨by rfl, ?_⟩) hHeld ?_
        rotate_left
        · rintro Wx ⟨hS0, hS1, hS2, hS3⟩
          first | (go_simp; done) | (go_simp; with_reducible rfl)
        (try simp only [Act.put, List.setIfInBounds_toArray, List.set_cons_zero, List.set_cons_succ])
        refine wpAnyH_take (i := 7) (oi := { dst := some 82, op := Op.fieldAddr 42 (Operand.tmp 10) 2, type := 0, pos := "law.go:89", after := #[], guard := none }) (v := ?_) rfl (by kernel_rfl) (by kernel_rfl) (by kernel_rfl) (fun _ _ _ h => h) (Or.inl ⟨by rfl, ?_⟩) hHeld ?_
        rotate_left
        · rintro Wx ⟨hS0, hS1, hS2, hS3⟩
          first | (go_simp; done) | (go_simp; with_reducible rfl)
        (try simp only [Act.put, List.setIfInBounds_toArray, List.set_cons_zero, List.set_cons_succ])
        refine wpAnyH_take (i := 8) (oi := { dst := some 83, op := Op.load 3 (Operand.tmp 82), type := 3, pos := "law.go:89", after := #[{ on := 7, ground := Ground.data }], guard := none }) (v := ?_) rfl (by kernel_rfl) (by kernel_rfl) (by kernel_rfl) (fun _ _ _ h => h) (Or.inl ⟨by rfl, ?_⟩) hHeld ?_
        rotate_left
        · rintro Wx ⟨hS0, hS1, hS2, hS3⟩
          first | (go_simp; done) | (go_simp; with_reducible rfl)
        (try simp only [Act.put, List.setIfInBounds_toArray, List.set_cons_zero, List.set_cons_succ])
        refine wpAnyH_take (i := 9) (oi := { dst := some 84, op := Op.fieldAddr 42 (Operand.tmp 10) 3, type := 0, pos := "law.go:89", after := #[], guard := none }) (v := ?_) rfl (by kernel_rfl) (by kernel_rfl) (by kernel_rfl) (fun _ _ _ h => h) (Or.inl ⟨by rfl, ?_⟩) hHeld ?_
        rotate_left
        · rintro Wx ⟨hS0, hS1, hS2, hS3⟩
          first | (go_simp; done) | (go_simp; with_reducible rfl)
        (try simp only [Act.put, List.setIfInBounds_toArray, List.set_cons_zero, List.set_cons_succ])
        refine wpAnyH_take (i := 10) (oi := { dst := some 85, op := Op.load 4 (Operand.tmp 84), type := 4, pos := "law.go:89", after := #[{ on := 9, ground := Ground.data }], guard := none }) (v := ?_) rfl (by kernel_rfl) (by kernel_rfl) (by kernel_rfl) (fun _ _ _ h => h) (Or.inl ⟨by rfl, ?_⟩) hHeld ?_
        rotate_left
        · rintro Wx ⟨hS0, hS1, hS2, hS3⟩
          first | (go_simp; done) | (go_simp; with_reducible rfl)
        (try simp only [Act.put, List.setIfInBounds_toArray, List.set_cons_zero, List.set_cons_succ])
        refine wpAnyH_ready (rs := [6]) (by kernel_rfl) (by simp) ?_
        refine AllReadyH.cons (o := { dst := some 81, op := Op.call { callee := Callee.value (Operand.func 12), args := #[Operand.tmp 78, Operand.tmp 80], argTypes := #[46, 3] }, type := 45, pos := "law.go:89", after := #[{ on := 3, ground := Ground.data }, { on := 5, ground := Ground.data }], guard := none }) rfl (fun K hK => ?_) AllReadyH.nil
        go_simp
        refine (one_slot HP.out.ks a.slot HD0.out).mono ?_
        rintro e x1' ⟨sx, rfl, h⟩
        have HX1 := Lib.hid h
        clear h
        refine hK.out _ _ ?_ (fun hHeld => ?_)
        · exact ⟨one_cS HX1.out, by rw [HX1.out.row1.cell, HCS.out]; rfl, by rw [HX1.out.row1.cell, HCS.out]; rfl, by rw [HX1.out.row1.cell, HCS.out]; rfl⟩
        clear hK K
        (try simp only [Act.put, List.setIfInBounds_toArray, List.set_cons_zero, List.set_cons_succ])
        refine wpAnyH_ready (rs := [11]) (by kernel_rfl) (by simp) ?_
        refine AllReadyH.cons (o := { dst := some 86, op := Op.call { callee := Callee.value (Operand.func 13), args := #[Operand.tmp 81, Operand.tmp 83, Operand.tmp 85], argTypes := #[45, 3, 4] }, type := 4, pos := "law.go:89", after := #[{ on := 6, ground := Ground.data }, { on := 8, ground := Ground.data }, { on := 10, ground := Ground.data }, { on := 6, ground := Ground.chain }], guard := none }) rfl (fun K hK => ?_) AllReadyH.nil
        go_simp
        refine (one_sready HP.out.ks a.num a.on HX1.out).mono ?_
        rw [← hbv]
        rintro e x2' ⟨rfl, h⟩
        have HX2 := Lib.hid h
        clear h
        refine hK.out _ _ ?_ (fun hHeld => ?_)
        · exact ⟨one_cF HX2.out, by rw [HX2.out.row1.cell, HCS.out]; rfl, by rw [HX2.out.row1.cell, HCS.out]; rfl, by rw [HX2.out.row1.cell, HCS.out]; rfl⟩
        clear hK K
        (try simp only [Act.put, List.setIfInBounds_toArray, List.set_cons_zero, List.set_cons_succ])
        refine wpAnyH_done (by kernel_rfl) ?_ _
        have HW2 : Hid (One (Duo F DcP c) w x2' [(XA, cs, 42)] b (m, readyM m a.slot a.num a.on)) := Lib.hid (one_weak HX2.out (dcf_p (fb := fb)))
        clear HX2 HX1 HD0 hbv
        cases bv with
        | true =>
          go_wp2
          go_meet
          case rel => exact ⟨by rw [← (Prod.mk.inj HE.out).2]; rfl, by rw [← (Prod.mk.inj HE.out).1]; exact HW2.out⟩
        | false =>
          go_wp2
          go_meet
          case rel => exact ⟨by rw [← (Prod.mk.inj HE.out).2]; rfl, by rw [← (Prod.mk.inj HE.out).1]; exact HW2.out⟩
      have e3 : (kd == 3) = false := beq_eq_false_iff_ne.2 k3
      have K3 := Lib.hid (fun h => k3 (HKD.out.trans h))
      clear k3
      by_cases k4 : kd = 4
      case pos =>
        have e4 : (kd == 4) = true := by rw [k4]; exact beq_self_eq_true _
        have K4 := Lib.hid (HKD.out.symm.trans k4)
        clear k4
        have HE : Hid ((tickM m a.num, (0 : Int)) = (m1, r1)) := Lib.hid (by rw [← HEQ.out]; unfold actM; rw [if_neg K1.out, if_neg K2.out, if_neg K3.out, if_pos K4.out])
        have HC1 := Lib.hid (one_snd HP.out.ks dcp_keeps dcp_keeps HV0.out (fun _ h => dtick_any a.num h HM.out.inv HFA.out.num))
        go_wp2_with fail
        refine HC1.out.mono ?_
        rintro e v1 ⟨rfl, h⟩
        have HV1 := Lib.hid h
        clear h HC1 HV0 x0 x1 x2 x3 x9 HOP
        go_wp2
        go_meet
        case rel => exact ⟨by rw [← (Prod.mk.inj HE.out).2], by rw [← (Prod.mk.inj HE.out).1]; exact HV1.out⟩
      have e4 : (kd == 4) = false := beq_eq_false_iff_ne.2 k4
      have K4 := Lib.hid (fun h => k4 (HKD.out.trans h))
      clear k4
      have HE : Hid ((m, (0 : Int)) = (m1, r1)) := Lib.hid (by rw [← HEQ.out]; unfold actM; rw [if_neg K1.out, if_neg K2.out, if_neg K3.out, if_neg K4.out])
      go_wp2
      go_meet
      case rel => exact ⟨by rw [← (Prod.mk.inj HE.out).2], by rw [← (Prod.mk.inj HE.out).1]; exact HV0.out⟩
end Go.Proofs.YtchaeidmjoelnaaGreat.modelPlays
