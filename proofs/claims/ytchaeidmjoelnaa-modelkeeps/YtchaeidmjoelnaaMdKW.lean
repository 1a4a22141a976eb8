/-
  switchback's ModelKeeps: the active slot, and the slot that the route names, are never scaled down; the other one is only behind the post-gate and the delay, behind a rollback, or ahead of a switch. For every input the law returns true, and each argument reads afterwards as it read before. No condition beside the row's own.
-/
import Derived.Test.YtchaeidmjoelnaaMdG
import Derived.Deep.LoopGhost
import Derived.Deep.Cut
import Derived.Deep.RegionHeld3
import Derived.Deep.QuietTactic
import Derived.BigQuiet
namespace Go.Proofs.Ytchaeidmjoelnaa.modelKeeps
open Go.Proofs.Ytchaeidmjoelnaa
open Go.ChangeShapes Go.WideShapes Go.ChangeAt Go.RowKit
set_option linter.unusedVariables false

set_option maxRecDepth 100000 in
set_option maxHeartbeats 8000000 in
theorem walk {F : ObIn Md} (hp : PkgMd F) (v : Value) (xs : List Am) (ca cb cc : Int) (w : World) (hx : ActsI w v xs) (fa : Fits ca) (fb : Fits cb) (fc : Fits cc) : Calls Try.prog 5 #[.agg #[.int .i64 ca, .int .i64 cb, .int .i64 cc], v] w (Holds w) := by
  obtain ⟨A0, c0, rfl⟩ := hx.shape
  have HP := Lib.hid hp
  have HX := Lib.hid hx
  have HF := Lib.hid (And.intro fa (And.intro fb fc))
  have HAW : Hid (∀ W, Calls Try.prog 9 #[] W fun e w' => e = .returned (.bool true) ∧ Below W.heap.size W w') := Lib.hid (awake_any hp)
  obtain ⟨gr, hgr⟩ : ∃ b, b = greatB xs := ⟨_, rfl⟩
  have HGR : Hid (∀ W, Below w.heap.size w W → Calls Try.prog 10 #[.slice A0 xs.length c0] W fun e w' => e = .returned (.bool gr) ∧ Below W.heap.size W w') := Lib.hid (fun W hb => by rw [hgr]; exact great_any _ _ _ (hx.under hb))
  have HG := Lib.hid hgr
  clear hp hx fa fb fc hgr
  go_enter Try.func5, Try.ntmps5
  go_upto_region 1 with (fail)
  obtain ⟨C, hC⟩ : ∃ C, C = w.heap.size := ⟨_, rfl⟩
  rw [← hC]
  refine name_w (fun V => Rw V C #[.int .i64 ca, .int .i64 cb, .int .i64 cc] 22 ∧ Below w.heap.size w V) ⟨by rw [hC]; exact Rw.new _ _ _, (Below.refl _ _).alloc (Nat.le_refl _) _⟩ ?_
  clear hC
  rintro u0 ⟨h1, h2⟩
  have RC0 := Lib.hid h1
  have HB0 := Lib.hid h2
  clear h1 h2
  go_wp2_with fail
  refine (HAW.out _).mono ?_
  rintro e u1 ⟨rfl, hb⟩
  have RC1 := Lib.hid (RC0.out.under hb RC0.out.lt)
  have HB1 := Lib.hid (HB0.out.trans (hb.mono HB0.out.size))
  clear hb RC0 HB0
  go_wp2_with fail
  refine (HGR.out _ HB1.out).mono ?_
  rintro e u2 ⟨rfl, hb⟩
  have RC2 := Lib.hid (RC1.out.under hb RC1.out.lt)
  have HB2 := Lib.hid (HB1.out.trans (hb.mono HB1.out.size))
  clear hb RC1 HB1
  cases gr with
  | true =>
    clear RC2
    go_wp2_with fail
    refine (HAW.out _).mono ?_
    rintro e u3 ⟨rfl, hb⟩
    have HB3 := Lib.hid (HB2.out.trans (hb.mono HB2.out.size))
    clear hb HB2
    go_wp2
    go_ret
    exact ⟨rfl, HB3.out⟩
  | false =>
  have HGN := Lib.hid (great_no HG.out.symm)
  have k0 : u2.cell? ⟨C, 0, none⟩ = some (.int .i64 ca) := by rw [RC2.out.cell]; rfl
  have k1 : u2.cell? ⟨C, 1, none⟩ = some (.int .i64 cb) := by rw [RC2.out.cell]; rfl
  have k2 : u2.cell? ⟨C, 2, none⟩ = some (.int .i64 cc) := by rw [RC2.out.cell]; rfl
  clear HAW HGR HG
  go_wp2_with fail
  refine (HP.out.new ca cb cc u2 HF.out.1 HF.out.2.1 HF.out.2.2).mono ?_
  rintro e u3 hnew
  rcases hnew with ⟨hr, b, rfl, hn⟩ | ⟨hr, rfl, hb⟩
  case inr =>
    have HB3 := Lib.hid (HB2.out.trans (hb.mono HB2.out.size))
    clear hb HB2 hr k0 k1 k2 RC2
    go_wp2
    go_ret
    exact ⟨rfl, HB3.out⟩
  obtain ⟨m0, hm0⟩ : ∃ m, m = newM (firstS ca cb) cc := ⟨_, rfl⟩
  have H3 : Hid (One F w u3 [] b m0) := Lib.hid (by rw [hm0]; exact hn.one HB2.out)
  have N0 : Hid (MdN 0 m0) := Lib.hid (by rw [hm0]; exact mdn_new hr)
  skip
  clear hr hn hm0 HB2 RC2 k0 k1 k2 HF
  go_wp2
  go_loopg [46] xs.length (fun m' iv wr => ∃ k : Nat, Hid (m' = xs.length - k) ∧ k ≤ xs.length ∧ iv = .int .i64 (k : Int) ∧ Hid (One F w wr [] b (actsM m0 (xs.take k))))
  case atStart => exact ⟨0, Lib.hid rfl, Nat.zero_le _, rfl, H3⟩
  case round =>
    obtain ⟨k, HGh, hk, rfl, HO⟩ := hrel
    clear H3
    by_cases hlt : k < xs.length
    case neg =>
      have d1 : decide ((k : Int) < (xs.length : Int)) = false := by simp; omega
      have d2 : decide (k < xs.length) = false := decide_eq_false hlt
      obtain rfl : k = xs.length := by omega
      rw [List.take_length] at HO
      clear hk hlt HGh
      go_wp2
      go_ret
      exact ⟨rfl, HO.out.low⟩
    case pos =>
      have HK := Lib.hid hlt
      have hk80 : k < 80 := by have := HGN.out.1; omega
      have d1 : decide ((k : Int) < (xs.length : Int)) = true := by simp; omega
      have d2 : decide (k < xs.length) = true := decide_eq_true hlt
      obtain ⟨m, hm⟩ : ∃ m, m = actsM m0 (xs.take k) := ⟨_, rfl⟩
      rw [← hm] at HO
      have HM : Hid (MdN 800 m) := Lib.hid (by rw [hm]; exact mdn_take N0.out HGN.out k hk)
      obtain ⟨bb, oo, u, hA, hrg, hui, hfa⟩ := HX.out.kth0 HO.out.low hlt
      subst hA
      obtain ⟨a, ha⟩ : ∃ a, a = xs[k] := ⟨_, rfl⟩
      have HUI : Hid (IntsI w u a.outs) := Lib.hid (by rw [ha]; exact hui)
      have HFA : Hid (FitsA a) := Lib.hid (by rw [ha]; exact hfa)
      have HAO : Hid (a.outs.length ≤ 50) := Lib.hid (by rw [ha]; exact HGN.out.2 xs[k] (List.getElem_mem hlt))
      have HA := Lib.hid ha
      obtain ⟨cs, hcs⟩ : ∃ c, c = amC a u := ⟨_, rfl⟩
      have HRG : Hid (wr.rangeAt bb (oo + k * 10) cs.toList) := Lib.hid (by rw [hcs, ha]; exact hrg)
      have HZC : Hid (cs.size = 10) := Lib.hid (by rw [hcs]; rfl)
      have H1C : Hid (cs.all (·.oneCell') = true) := Lib.hid (by
        obtain ⟨A', c', hu⟩ := IntsI.shape hui
        rw [hcs, hu]
        exact amC_one _ _ _ _)
      have HCS := Lib.hid hcs
      have HDO : Hid (∀ L V, One F w V L b m → Calls Try.prog 13 #[ptr b, .agg cs] V fun e w' => e = .returned (.int .i64 (actM m a).2) ∧ One F w w' L b (actM m a).1) := Lib.hid (fun L V h => by rw [hcs]; exact do_any HP.out a u h HM.out (by decide) (HUI.out.under h.low (Nat.le_refl _)) HFA.out (Nat.le_trans HAO.out (by decide)))
      have HNX : Hid (actsM m0 (xs.take (k + 1)) = (actM m a).1) := Lib.hid (by rw [hm, ha]; exact acts_take m0 xs k hlt)
      clear hm hrg hui hfa ha hcs hlt
      go_upto_region 9 with (first | (refine load_mid (by rfl) 34 (.tmp 48) rfl bb (oo + k * 10) rfl cs _ HRG.out Try.underlying34 rfl (by rw [HZC.out]; exact i10) ?_) | (refine wpList_plain rfl fun _ hK => wp_store_row 34 (.tmp 8) (.tmp 49) rfl wr.heap.size cs rfl rfl 34 _ (Rw.new wr _ 34) (by rw [HZC.out]; exact i10) (by rw [HZC.out]; rfl) H1C.out (hK _ _ ?_); clear hK))
      obtain ⟨XA, hX⟩ : ∃ X, X = wr.heap.size := ⟨_, rfl⟩
      rw [← hX]
      refine name_w (fun V => One F w V [(XA, cs, 34)] b m) (by rw [hX]; exact (HO.out.alloc HP.out.ks _ 34).setRow HP.out.ks cs) ?_
      clear hX HO HRG
      rintro v0 h
      have HV0 := Lib.hid h
      clear h
      obtain ⟨rw0, hrw0⟩ : ∃ c, c = repC m := ⟨_, rfl⟩
      have HE_rw0 := Lib.hid hrw0
      have HZ_rw0 : Hid (rw0.size = 21) := Lib.hid (by rw [hrw0]; rfl)
      have H1_rw0 : Hid (rw0.all (·.oneCell') = true) := Lib.hid (by rw [hrw0]; exact repC_one _)
      have HQ : Hid (Calls Try.prog 12 #[ptr b] v0 fun e w' => e = .returned (.agg rw0) ∧ One F w w' [(XA, cs, 34)] b m) := Lib.hid (by rw [hrw0]; exact one_reply HP.out HV0.out HM.out)
      clear hrw0
      go_wp2_with fail
      refine HQ.out.mono ?_
      rintro e v1 ⟨rfl, h⟩
      have HV1 := Lib.hid h
      clear h HQ HV0
      go_upto_region 10 with (first | (refine wpList_plain rfl fun _ hK => wp_store_row 44 (.tmp 9) (.tmp 51) rfl v1.heap.size rw0 rfl rfl 44 _ (Rw.new v1 _ 44) (by rw [HZ_rw0.out]; exact i21) (by rw [HZ_rw0.out]; rfl) H1_rw0.out (hK _ _ ?_); clear hK))
      obtain ⟨XW, hX⟩ : ∃ X, X = v1.heap.size := ⟨_, rfl⟩
      rw [← hX]
      refine name_w (fun V => One F w V [(XW, rw0, 44), (XA, cs, 34)] b m) (by rw [hX]; exact (HV1.out.alloc HP.out.ks _ 44).setRow HP.out.ks rw0) ?_
      clear hX HV1
      rintro v2 h
      have HV2 := Lib.hid h
      clear h
      obtain ⟨m1, hm1⟩ : ∃ x, x = (actM m a).1 := ⟨_, rfl⟩
      obtain ⟨r1, hr1⟩ : ∃ x, x = (actM m a).2 := ⟨_, rfl⟩
      have HM1 : Hid (MdN 810 m1) := Lib.hid (by rw [hm1]; exact HM.out.act a (Nat.le_trans HAO.out (by decide)))
      have HD1 := Lib.hid (HDO.out _ _ HV2.out)
      rw [← hm1, ← hr1] at HD1
      have Hm1 := Lib.hid hm1
      have Hr1 := Lib.hid hr1
      clear hm1 hr1 HDO
      go_wp2_with (first | (refine wpList_load_any (by rfl) 34 (.tmp 8) rfl XA rfl 34 cs (0, 0) _ HV2.out.row2 Try.underlying34 rfl (by rw [HZC.out]; exact i10) ?_))
      refine HD1.out.mono ?_
      rintro e v3 ⟨rfl, h⟩
      have HV3 := Lib.hid h
      clear h HD1 HV2
      obtain ⟨rn0, hrn0⟩ : ∃ c, c = repC m1 := ⟨_, rfl⟩
      have HE_rn0 := Lib.hid hrn0
      have HZ_rn0 : Hid (rn0.size = 21) := Lib.hid (by rw [hrn0]; rfl)
      have H1_rn0 : Hid (rn0.all (·.oneCell') = true) := Lib.hid (by rw [hrn0]; exact repC_one _)
      have HQ : Hid (Calls Try.prog 12 #[ptr b] v3 fun e w' => e = .returned (.agg rn0) ∧ One F w w' [(XW, rw0, 44), (XA, cs, 34)] b m1) := Lib.hid (by rw [hrn0]; exact one_reply HP.out HV3.out HM1.out)
      clear hrn0
      go_wp2_with fail
      refine HQ.out.mono ?_
      rintro e v4 ⟨rfl, h⟩
      have HV4 := Lib.hid h
      clear h HQ HV3
      go_upto_region 12 with (first | (refine wpList_plain rfl fun _ hK => wp_store_row 44 (.tmp 10) (.tmp 56) rfl v4.heap.size rn0 rfl rfl 44 _ (Rw.new v4 _ 44) (by rw [HZ_rn0.out]; exact i21) (by rw [HZ_rn0.out]; rfl) H1_rn0.out (hK _ _ ?_); clear hK))
      obtain ⟨XN, hX⟩ : ∃ X, X = v4.heap.size := ⟨_, rfl⟩
      rw [← hX]
      refine name_w (fun V => One F w V [(XN, rn0, 44), (XW, rw0, 44), (XA, cs, 34)] b m1) (by rw [hX]; exact (HV4.out.alloc HP.out.ks _ 44).setRow HP.out.ks rn0) ?_
      clear hX HV4
      rintro v5 h
      have HV5 := Lib.hid h
      clear h
      have HKP : Hid (∀ slot : Int, slot = 0 ∨ slot = 1 → Keeps1 m m1 slot) := Lib.hid (fun slot h => by rw [Hm1.out]; exact act_keeps HM.out.inv a h)
      clear HX
      go_wp2
      go_loopg [57] 2 (fun m' jv wr => ∃ j : Nat, Hid (m' = 2 - j) ∧ j ≤ 2 ∧ jv = .int .i64 (j : Int) ∧ Hid (One F w wr [(XN, rn0, 44), (XW, rw0, 44), (XA, cs, 34)] b m1))
      case atStart => exact ⟨0, Lib.hid rfl, by omega, rfl, HV5⟩
      case round =>
        obtain ⟨j, HGj, hj, rfl, HJ⟩ := hrel
        clear HV5
        by_cases hj2 : j < 2
        case neg =>
          have d1 : decide ((j : Int) < 2) = false := by simp; omega
          have d2 : decide (j < 2) = false := decide_eq_false hj2
          clear hj2 hj
          go_wp2
          go_roundg (xs.length - (k + 1))
          case measure => have := HGh.out; have := HK.out; omega
          case rel => exact ⟨k + 1, Lib.hid rfl, HK.out, by go_num, Lib.hid (by rw [HNX.out, ← Hm1.out]; exact HJ.out.nil)⟩
        obtain ⟨q, hq⟩ : ∃ q : Nat, q = (if j = 0 then m.k.length else m.l.length) := ⟨_, rfl⟩
        obtain ⟨p, hpp⟩ : ∃ p : Nat, p = (if j = 0 then m1.k.length else m1.l.length) := ⟨_, rfl⟩
        have HKS : Hid ((p : Int) < (q : Int) → ((j : Int) ≠ m.s.ac ∧ (j : Int) ≠ m.ro.slot ∧ (j : Int) ≠ m1.ro.slot) ∧ (AheadS m.s ∨ BehindM m)) := Lib.hid (fun h => by
          refine HKP.out (j : Int) (by omega) ?_
          have l1 := HM.out.inv.lk
          have l2 := HM.out.inv.ll
          have l3 := HM1.out.inv.lk
          have l4 := HM1.out.inv.ll
          unfold wK
          by_cases h0 : j = 0
          · rw [if_pos h0] at hq hpp
            rw [if_pos (by omega), if_pos (by omega)]
            omega
          · rw [if_neg h0] at hq hpp
            rw [if_neg (by omega), if_neg (by omega)]
            omega)
        obtain ⟨ac, hac⟩ : ∃ x, x = m.s.ac := ⟨_, rfl⟩
        obtain ⟨s0, hs0⟩ : ∃ x, x = m.ro.slot := ⟨_, rfl⟩
        obtain ⟨s1, hs1⟩ : ∃ x, x = m1.ro.slot := ⟨_, rfl⟩
        rw [← hac, ← hs0, ← hs1] at HKS
        have x1 : wr.cell? ⟨XW, 2, none⟩ = some (.int .i64 ac) := by rw [HJ.out.row2.cell, HE_rw0.out]; rw [hac]; rfl
        have x2 : wr.cell? ⟨XW, 13, none⟩ = some (.int .i64 s0) := by rw [HJ.out.row2.cell, HE_rw0.out]; rw [hs0]; rfl
        have x3 : wr.cell? ⟨XN, 13, none⟩ = some (.int .i64 s1) := by rw [HJ.out.row1.cell, HE_rn0.out]; rw [hs1]; rfl
        have hjj : j = 0 ∨ j = 1 := by omega
        clear hac hs0 hs1 hj2 hj
        rcases hjj with rfl | rfl
        · have HGJ := HGj
          rw [if_pos rfl] at hq hpp
          have y1 : wr.cell? ⟨XW, 15, none⟩ = some (.int .i64 (q : Int)) := by rw [HJ.out.row2.cell, HE_rw0.out]; rw [hq]; rfl
          have y2 : wr.cell? ⟨XN, 15, none⟩ = some (.int .i64 (p : Int)) := by rw [HJ.out.row1.cell, HE_rn0.out]; rw [hpp]; rfl
          clear hq hpp
          by_cases hpq : q ≤ p
          case pos =>
            have g1 : decide ((q : Int) ≤ (p : Int)) = true := by simp; omega
            have g2 : decide (q ≤ p) = true := decide_eq_true hpq
            clear hpq HKS
            go_upto_region 15 with (fail)
            go_quiet (fail)
            go_wp2
            go_roundg (2 - (0 + 1))
            case measure => have := HGj.out; omega
            case rel => exact ⟨0 + 1, Lib.hid rfl, by omega, by go_num, Lib.hid (HJ.out.keep HP.out.ks ⟨rfl, by simp, rfl, by simp, fun _ _ => by simp⟩)⟩
          have g1 : decide ((q : Int) ≤ (p : Int)) = false := by simp; omega
          have g2 : decide (q ≤ p) = false := decide_eq_false hpq
          have hks := HKS.out (by omega)
          have HAB := Lib.hid hks.2
          have e1 : ((0 : Int) == ac) = false := beq_eq_false_iff_ne.2 hks.1.1
          have e2 : ((0 : Int) == s0) = false := beq_eq_false_iff_ne.2 hks.1.2.1
          have e3 : ((0 : Int) == s1) = false := beq_eq_false_iff_ne.2 hks.1.2.2
          clear hpq hks HKS
          obtain ⟨sc, hsc⟩ : ∃ c, c = stC m.s := ⟨_, rfl⟩
          have HE_sc := Lib.hid hsc
          have HZ_sc : Hid (sc.size = 12) := Lib.hid (by rw [hsc]; rfl)
          have H1_sc : Hid (sc.all (·.oneCell') = true) := Lib.hid (by rw [hsc]; exact stC_one _)
          clear hsc
          go_upto_region 15 with (fail)
          go_quiet (fail)
          go_upto_region 18 with (fail)
          refine name_w (fun V => One F w V [(XN, rn0, 44), (XW, rw0, 44), (XA, cs, 34)] b m1) (HJ.out.keep HP.out.ks ⟨rfl, by simp, rfl, by simp, fun _ _ => by simp⟩) ?_
          rintro v30 h
          have HV30 := Lib.hid h
          clear h x1 x2 x3 y1 y2 g1 g2 e1 e2 e3
          have RS : Hid (v30.rangeAt XW 1 sc.toList) := Lib.hid (by rw [HE_sc.out]; exact rep_st HV30.out.row2 HE_rw0.out)
          go_upto_region 19 with (first | (refine load_mid (by rfl) 38 (.tmp 90) rfl XW 1 rfl sc _ RS.out Try.underlying38 rfl (by rw [HZ_sc.out]; exact i12) ?_) | (refine wpList_plain rfl fun _ hK => wp_store_row 38 (.tmp 12) (.tmp 91) rfl v30.heap.size sc rfl rfl 38 _ (Rw.new v30 _ 38) (by rw [HZ_sc.out]; exact i12) (by rw [HZ_sc.out]; rfl) H1_sc.out (hK _ _ ?_); clear hK))
          obtain ⟨XS, hX⟩ : ∃ X, X = v30.heap.size := ⟨_, rfl⟩
          rw [← hX]
          refine name_w (fun V => One F w V [(XS, sc, 38), (XN, rn0, 44), (XW, rw0, 44), (XA, cs, 34)] b m1) (by rw [hX]; exact (HV30.out.alloc HP.out.ks _ 38).setRow HP.out.ks sc) ?_
          clear hX HV30 RS
          rintro v31 h
          have HV31 := Lib.hid h
          clear h
          obtain ⟨ph, hph⟩ : ∃ x, x = m.s.ph := ⟨_, rfl⟩
          obtain ⟨sw, hsw⟩ : ∃ x, x = m.s.sw := ⟨_, rfl⟩
          obtain ⟨dl, hdl⟩ : ∃ x, x = m.s.dl := ⟨_, rfl⟩
          obtain ⟨fl, hfl⟩ : ∃ x, x = m.s.fl := ⟨_, rfl⟩
          obtain ⟨tk, htk⟩ : ∃ x, x = m.tick := ⟨_, rfl⟩
          have z0 : v31.cell? ⟨XS, 0, none⟩ = some (.int .i64 ph) := by rw [HV31.out.row1.cell, HE_sc.out]; rw [hph]; rfl
          have z8 : v31.cell? ⟨XS, 8, none⟩ = some (.int .i64 dl) := by rw [HV31.out.row1.cell, HE_sc.out]; rw [hdl]; rfl
          have z10 : v31.cell? ⟨XS, 10, none⟩ = some (.int .i64 sw) := by rw [HV31.out.row1.cell, HE_sc.out]; rw [hsw]; rfl
          have z11 : v31.cell? ⟨XS, 11, none⟩ = some (.int .i64 fl) := by rw [HV31.out.row1.cell, HE_sc.out]; rw [hfl]; rfl
          have z20 : v31.cell? ⟨XW, 20, none⟩ = some (.int .i64 tk) := by rw [HV31.out.row3.cell, HE_rw0.out]; rw [htk]; rfl
          have hab := HAB.out
          unfold AheadS BehindM at hab
          rw [← hph, ← hsw, ← hdl, ← hfl, ← htk] at hab
          have HRG : Hid ((0 ≤ tk ∧ tk ≤ 1073741824) ∧ 0 ≤ fl ∧ fl ≤ 1073741824) := Lib.hid (by rw [htk, hfl]; exact ⟨HM.out.inv.tick, by have := (right_x HM.out.inv.right).2.1; omega⟩)
          clear HAB hph hsw hdl hfl htk
          rcases hab with (rfl | rfl | ⟨rfl, rfl⟩) | (rfl | ⟨rfl, hd⟩)
          · go_wp2
            go_roundg (2 - (0 + 1))
            case measure => have := HGj.out; omega
            case rel => exact ⟨0 + 1, Lib.hid rfl, by omega, by go_num, Lib.hid HV31.out.tail⟩
          · go_wp2
            go_roundg (2 - (0 + 1))
            case measure => have := HGj.out; omega
            case rel => exact ⟨0 + 1, Lib.hid rfl, by omega, by go_num, Lib.hid HV31.out.tail⟩
          · go_wp2
            go_roundg (2 - (0 + 1))
            case measure => have := HGj.out; omega
            case rel => exact ⟨0 + 1, Lib.hid rfl, by omega, by go_num, Lib.hid HV31.out.tail⟩
          · go_wp2
            go_roundg (2 - (0 + 1))
            case measure => have := HGj.out; omega
            case rel => exact ⟨0 + 1, Lib.hid rfl, by omega, by go_num, Lib.hid HV31.out.tail⟩
          · by_cases h0 : dl = 0
            · subst h0
              clear hd
              go_wp2
              go_roundg (2 - (0 + 1))
              case measure => have := HGj.out; omega
              case rel => exact ⟨0 + 1, Lib.hid rfl, by omega, by go_num, Lib.hid HV31.out.tail⟩
            have f1 : (dl == 0) = false := beq_eq_false_iff_ne.2 h0
            have hr := HRG.out
            obtain ⟨dd, hdd⟩ : ∃ d, d = tk - fl := ⟨_, rfl⟩
            have f2 : wrap64 (tk - fl) = dd := by rw [hdd]; unfold wrap64; omega
            have f3 : decide (dl ≤ dd) = true := decide_eq_true (by omega)
            clear hd h0 hr hdd
            go_wp2
            go_roundg (2 - (0 + 1))
            case measure => have := HGj.out; omega
            case rel => exact ⟨0 + 1, Lib.hid rfl, by omega, by go_num, Lib.hid HV31.out.tail⟩
        · have HGJ := HGj
          rw [if_neg (by decide)] at hq hpp
          have y1 : wr.cell? ⟨XW, 16, none⟩ = some (.int .i64 (q : Int)) := by rw [HJ.out.row2.cell, HE_rw0.out]; rw [hq]; rfl
          have y2 : wr.cell? ⟨XN, 16, none⟩ = some (.int .i64 (p : Int)) := by rw [HJ.out.row1.cell, HE_rn0.out]; rw [hpp]; rfl
          clear hq hpp
          by_cases hpq : q ≤ p
          case pos =>
            have g1 : decide ((q : Int) ≤ (p : Int)) = true := by simp; omega
            have g2 : decide (q ≤ p) = true := decide_eq_true hpq
            clear hpq HKS
            go_upto_region 15 with (fail)
            go_quiet (fail)
            go_wp2
            go_roundg (2 - (1 + 1))
            case measure => have := HGj.out; omega
            case rel => exact ⟨1 + 1, Lib.hid rfl, by omega, by go_num, Lib.hid (HJ.out.keep HP.out.ks ⟨rfl, by simp, rfl, by simp, fun _ _ => by simp⟩)⟩
          have g1 : decide ((q : Int) ≤ (p : Int)) = false := by simp; omega
          have g2 : decide (q ≤ p) = false := decide_eq_false hpq
          have hks := HKS.out (by omega)
          have HAB := Lib.hid hks.2
          have e1 : ((1 : Int) == ac) = false := beq_eq_false_iff_ne.2 hks.1.1
          have e2 : ((1 : Int) == s0) = false := beq_eq_false_iff_ne.2 hks.1.2.1
          have e3 : ((1 : Int) == s1) = false := beq_eq_false_iff_ne.2 hks.1.2.2
          clear hpq hks HKS
          obtain ⟨sc, hsc⟩ : ∃ c, c = stC m.s := ⟨_, rfl⟩
          have HE_sc := Lib.hid hsc
          have HZ_sc : Hid (sc.size = 12) := Lib.hid (by rw [hsc]; rfl)
          have H1_sc : Hid (sc.all (·.oneCell') = true) := Lib.hid (by rw [hsc]; exact stC_one _)
          clear hsc
          go_upto_region 15 with (fail)
          go_quiet (fail)
          go_upto_region 18 with (fail)
          refine name_w (fun V => One F w V [(XN, rn0, 44), (XW, rw0, 44), (XA, cs, 34)] b m1) (HJ.out.keep HP.out.ks ⟨rfl, by simp, rfl, by simp, fun _ _ => by simp⟩) ?_
          rintro v30 h
          have HV30 := Lib.hid h
          clear h x1 x2 x3 y1 y2 g1 g2 e1 e2 e3
          have RS : Hid (v30.rangeAt XW 1 sc.toList) := Lib.hid (by rw [HE_sc.out]; exact rep_st HV30.out.row2 HE_rw0.out)
          go_upto_region 19 with (first | (refine load_mid (by rfl) 38 (.tmp 90) rfl XW 1 rfl sc _ RS.out Try.underlying38 rfl (by rw [HZ_sc.out]; exact i12) ?_) | (refine wpList_plain rfl fun _ hK => wp_store_row 38 (.tmp 12) (.tmp 91) rfl v30.heap.size sc rfl rfl 38 _ (Rw.new v30 _ 38) (by rw [HZ_sc.out]; exact i12) (by rw [HZ_sc.out]; rfl) H1_sc.out (hK _ _ ?_); clear hK))
          obtain ⟨XS, hX⟩ : ∃ X, X = v30.heap.size := ⟨_, rfl⟩
          rw [← hX]
          refine name_w (fun V => One F w V [(XS, sc, 38), (XN, rn0, 44), (XW, rw0, 44), (XA, cs, 34)] b m1) (by rw [hX]; exact (HV30.out.alloc HP.out.ks _ 38).setRow HP.out.ks sc) ?_
          clear hX HV30 RS
          rintro v31 h
          have HV31 := Lib.hid h
          clear h
          obtain ⟨ph, hph⟩ : ∃ x, x = m.s.ph := ⟨_, rfl⟩
          obtain ⟨sw, hsw⟩ : ∃ x, x = m.s.sw := ⟨_, rfl⟩
          obtain ⟨dl, hdl⟩ : ∃ x, x = m.s.dl := ⟨_, rfl⟩
          obtain ⟨fl, hfl⟩ : ∃ x, x = m.s.fl := ⟨_, rfl⟩
          obtain ⟨tk, htk⟩ : ∃ x, x = m.tick := ⟨_, rfl⟩
          have z0 : v31.cell? ⟨XS, 0, none⟩ = some (.int .i64 ph) := by rw [HV31.out.row1.cell, HE_sc.out]; rw [hph]; rfl
          have z8 : v31.cell? ⟨XS, 8, none⟩ = some (.int .i64 dl) := by rw [HV31.out.row1.cell, HE_sc.out]; rw [hdl]; rfl
          have z10 : v31.cell? ⟨XS, 10, none⟩ = some (.int .i64 sw) := by rw [HV31.out.row1.cell, HE_sc.out]; rw [hsw]; rfl
          have z11 : v31.cell? ⟨XS, 11, none⟩ = some (.int .i64 fl) := by rw [HV31.out.row1.cell, HE_sc.out]; rw [hfl]; rfl
          have z20 : v31.cell? ⟨XW, 20, none⟩ = some (.int .i64 tk) := by rw [HV31.out.row3.cell, HE_rw0.out]; rw [htk]; rfl
          have hab := HAB.out
          unfold AheadS BehindM at hab
          rw [← hph, ← hsw, ← hdl, ← hfl, ← htk] at hab
          have HRG : Hid ((0 ≤ tk ∧ tk ≤ 1073741824) ∧ 0 ≤ fl ∧ fl ≤ 1073741824) := Lib.hid (by rw [htk, hfl]; exact ⟨HM.out.inv.tick, by have := (right_x HM.out.inv.right).2.1; omega⟩)
          clear HAB hph hsw hdl hfl htk
          rcases hab with (rfl | rfl | ⟨rfl, rfl⟩) | (rfl | ⟨rfl, hd⟩)
          · go_wp2
            go_roundg (2 - (1 + 1))
            case measure => have := HGj.out; omega
            case rel => exact ⟨1 + 1, Lib.hid rfl, by omega, by go_num, Lib.hid HV31.out.tail⟩
          · go_wp2
            go_roundg (2 - (1 + 1))
            case measure => have := HGj.out; omega
            case rel => exact ⟨1 + 1, Lib.hid rfl, by omega, by go_num, Lib.hid HV31.out.tail⟩
          · go_wp2
            go_roundg (2 - (1 + 1))
            case measure => have := HGj.out; omega
            case rel => exact ⟨1 + 1, Lib.hid rfl, by omega, by go_num, Lib.hid HV31.out.tail⟩
          · go_wp2
            go_roundg (2 - (1 + 1))
            case measure => have := HGj.out; omega
            case rel => exact ⟨1 + 1, Lib.hid rfl, by omega, by go_num, Lib.hid HV31.out.tail⟩
          · by_cases h0 : dl = 0
            · subst h0
              clear hd
              go_wp2
              go_roundg (2 - (1 + 1))
              case measure => have := HGj.out; omega
              case rel => exact ⟨1 + 1, Lib.hid rfl, by omega, by go_num, Lib.hid HV31.out.tail⟩
            have f1 : (dl == 0) = false := beq_eq_false_iff_ne.2 h0
            have hr := HRG.out
            obtain ⟨dd, hdd⟩ : ∃ d, d = tk - fl := ⟨_, rfl⟩
            have f2 : wrap64 (tk - fl) = dd := by rw [hdd]; unfold wrap64; omega
            have f3 : decide (dl ≤ dd) = true := decide_eq_true (by omega)
            clear hd h0 hr hdd
            go_wp2
            go_roundg (2 - (1 + 1))
            case measure => have := HGj.out; omega
            case rel => exact ⟨1 + 1, Lib.hid rfl, by omega, by go_num, Lib.hid HV31.out.tail⟩
end Go.Proofs.Ytchaeidmjoelnaa.modelKeeps
