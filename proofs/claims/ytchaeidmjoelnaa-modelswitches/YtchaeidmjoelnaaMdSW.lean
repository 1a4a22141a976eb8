/-
  switchback's ModelSwitches: the route changes by a step alone, with a greater generation, to the other slot, which is full, and whose gate ahead has passed; it names the active slot, but while a committed switch wasn't told. For every input the law returns true, and each argument reads afterwards as it read before. No condition beside the row's own.
-/
import Derived.Test.YtchaeidmjoelnaaMdG
import Derived.Deep.LoopGhost
import Derived.Deep.Cut
import Derived.Deep.RegionHeld3
import Derived.Deep.QuietTactic
import Derived.BigQuiet
namespace Go.Proofs.Ytchaeidmjoelnaa.modelSwitches
open Go.Proofs.Ytchaeidmjoelnaa
open Go.ChangeShapes Go.WideShapes Go.ChangeAt Go.RowKit
set_option linter.unusedVariables false

set_option maxRecDepth 100000 in
set_option maxHeartbeats 8000000 in
theorem walk {F : ObIn Md} (hp : PkgMd F) (v : Value) (xs : List Am) (ca cb cc : Int) (w : World) (hx : ActsI w v xs) (fa : Fits ca) (fb : Fits cb) (fc : Fits cc) : Calls Try.prog 4 #[.agg #[.int .i64 ca, .int .i64 cb, .int .i64 cc], v] w (Holds w) := by
  obtain ⟨A0, c0, rfl⟩ := hx.shape
  have HP := Lib.hid hp
  have HX := Lib.hid hx
  have HF := Lib.hid (And.intro fa (And.intro fb fc))
  have HAW : Hid (∀ W, Calls Try.prog 9 #[] W fun e w' => e = .returned (.bool true) ∧ Below W.heap.size W w') := Lib.hid (awake_any hp)
  obtain ⟨gr, hgr⟩ : ∃ b, b = greatB xs := ⟨_, rfl⟩
  have HGR : Hid (∀ W, Below w.heap.size w W → Calls Try.prog 10 #[.slice A0 xs.length c0] W fun e w' => e = .returned (.bool gr) ∧ Below W.heap.size W w') := Lib.hid (fun W hb => by rw [hgr]; exact great_any _ _ _ (hx.under hb))
  have HG := Lib.hid hgr
  clear hp hx fa fb fc hgr
  go_enter Try.func4, Try.ntmps4
  go_upto_region 1 with (fail)
  obtain ⟨C, hC⟩ : ∃ C, C = w.heap.size := ⟨_, rfl⟩
  rw [← hC]
  refine name_w (fun V => Rw V C #[.int .i64 ca, .int .i64 cb, .int .i64 cc] 22 ∧ Below w.heap.size w V) ⟨by rw [hC]; exact Rw.new _ _ _, (Below.refl _ _).alloc (Nat.le_refl _) _⟩ ?_
  clear hC
  rintro u0 ⟨h1, h2⟩
  have RC0 := Lib.hid h1
  have HB0 := Lib.hid h2
  clear h1 h2
  go_wp2_with fail
  refine (HAW.out _).mono ?_
  rintro e u1 ⟨rfl, hb⟩
  have RC1 := Lib.hid (RC0.out.under hb RC0.out.lt)
  have HB1 := Lib.hid (HB0.out.trans (hb.mono HB0.out.size))
  clear hb RC0 HB0
  go_wp2_with fail
  refine (HGR.out _ HB1.out).mono ?_
  rintro e u2 ⟨rfl, hb⟩
  have RC2 := Lib.hid (RC1.out.under hb RC1.out.lt)
  have HB2 := Lib.hid (HB1.out.trans (hb.mono HB1.out.size))
  clear hb RC1 HB1
  cases gr with
  | true =>
    clear RC2
    go_wp2_with fail
    refine (HAW.out _).mono ?_
    rintro e u3 ⟨rfl, hb⟩
    have HB3 := Lib.hid (HB2.out.trans (hb.mono HB2.out.size))
    clear hb HB2
    go_wp2
    go_ret
    exact ⟨rfl, HB3.out⟩
  | false =>
  have HGN := Lib.hid (great_no HG.out.symm)
  have k0 : u2.cell? ⟨C, 0, none⟩ = some (.int .i64 ca) := by rw [RC2.out.cell]; rfl
  have k1 : u2.cell? ⟨C, 1, none⟩ = some (.int .i64 cb) := by rw [RC2.out.cell]; rfl
  have k2 : u2.cell? ⟨C, 2, none⟩ = some (.int .i64 cc) := by rw [RC2.out.cell]; rfl
  clear HAW HGR HG
  go_wp2_with fail
  refine (HP.out.new ca cb cc u2 HF.out.1 HF.out.2.1 HF.out.2.2).mono ?_
  rintro e u3 hnew
  rcases hnew with ⟨hr, b, rfl, hn⟩ | ⟨hr, rfl, hb⟩
  case inr =>
    have HB3 := Lib.hid (HB2.out.trans (hb.mono HB2.out.size))
    clear hb HB2 hr k0 k1 k2 RC2
    go_wp2
    go_ret
    exact ⟨rfl, HB3.out⟩
  obtain ⟨m0, hm0⟩ : ∃ m, m = newM (firstS ca cb) cc := ⟨_, rfl⟩
  have H3 : Hid (One F w u3 [] b m0) := Lib.hid (by rw [hm0]; exact hn.one HB2.out)
  have N0 : Hid (MdN 0 m0) := Lib.hid (by rw [hm0]; exact mdn_new hr)
  skip
  clear hr hn hm0 HB2 RC2 k0 k1 k2 HF
  go_wp2
  go_loopg [43] xs.length (fun m' iv wr => ∃ k : Nat, Hid (m' = xs.length - k) ∧ k ≤ xs.length ∧ iv = .int .i64 (k : Int) ∧ Hid (One F w wr [] b (actsM m0 (xs.take k))))
  case atStart => exact ⟨0, Lib.hid rfl, Nat.zero_le _, rfl, H3⟩
  case round =>
    obtain ⟨k, HGh, hk, rfl, HO⟩ := hrel
    clear H3
    by_cases hlt : k < xs.length
    case neg =>
      have d1 : decide ((k : Int) < (xs.length : Int)) = false := by simp; omega
      have d2 : decide (k < xs.length) = false := decide_eq_false hlt
      obtain rfl : k = xs.length := by omega
      rw [List.take_length] at HO
      clear hk hlt HGh
      go_wp2
      go_ret
      exact ⟨rfl, HO.out.low⟩
    case pos =>
      have HK := Lib.hid hlt
      have hk80 : k < 80 := by have := HGN.out.1; omega
      have d1 : decide ((k : Int) < (xs.length : Int)) = true := by simp; omega
      have d2 : decide (k < xs.length) = true := decide_eq_true hlt
      obtain ⟨m, hm⟩ : ∃ m, m = actsM m0 (xs.take k) := ⟨_, rfl⟩
      rw [← hm] at HO
      have HM : Hid (MdN 800 m) := Lib.hid (by rw [hm]; exact mdn_take N0.out HGN.out k hk)
      obtain ⟨bb, oo, u, hA, hrg, hui, hfa⟩ := HX.out.kth0 HO.out.low hlt
      subst hA
      obtain ⟨a, ha⟩ : ∃ a, a = xs[k] := ⟨_, rfl⟩
      have HUI : Hid (IntsI w u a.outs) := Lib.hid (by rw [ha]; exact hui)
      have HFA : Hid (FitsA a) := Lib.hid (by rw [ha]; exact hfa)
      have HAO : Hid (a.outs.length ≤ 50) := Lib.hid (by rw [ha]; exact HGN.out.2 xs[k] (List.getElem_mem hlt))
      have HA := Lib.hid ha
      obtain ⟨cs, hcs⟩ : ∃ c, c = amC a u := ⟨_, rfl⟩
      have HRG : Hid (wr.rangeAt bb (oo + k * 10) cs.toList) := Lib.hid (by rw [hcs, ha]; exact hrg)
      have HZC : Hid (cs.size = 10) := Lib.hid (by rw [hcs]; rfl)
      have H1C : Hid (cs.all (·.oneCell') = true) := Lib.hid (by
        obtain ⟨A', c', hu⟩ := IntsI.shape hui
        rw [hcs, hu]
        exact amC_one _ _ _ _)
      have HCS := Lib.hid hcs
      have HDO : Hid (∀ L V, One F w V L b m → Calls Try.prog 13 #[ptr b, .agg cs] V fun e w' => e = .returned (.int .i64 (actM m a).2) ∧ One F w w' L b (actM m a).1) := Lib.hid (fun L V h => by rw [hcs]; exact do_any HP.out a u h HM.out (by decide) (HUI.out.under h.low (Nat.le_refl _)) HFA.out (Nat.le_trans HAO.out (by decide)))
      have HNX : Hid (actsM m0 (xs.take (k + 1)) = (actM m a).1) := Lib.hid (by rw [hm, ha]; exact acts_take m0 xs k hlt)
      clear hm hrg hui hfa ha hcs hlt
      go_upto_region 9 with (first | (refine load_mid (by rfl) 34 (.tmp 45) rfl bb (oo + k * 10) rfl cs _ HRG.out Try.underlying34 rfl (by rw [HZC.out]; exact i10) ?_) | (refine wpList_plain rfl fun _ hK => wp_store_row 34 (.tmp 8) (.tmp 46) rfl wr.heap.size cs rfl rfl 34 _ (Rw.new wr _ 34) (by rw [HZC.out]; exact i10) (by rw [HZC.out]; rfl) H1C.out (hK _ _ ?_); clear hK))
      obtain ⟨XA, hX⟩ : ∃ X, X = wr.heap.size := ⟨_, rfl⟩
      rw [← hX]
      refine name_w (fun V => One F w V [(XA, cs, 34)] b m) (by rw [hX]; exact (HO.out.alloc HP.out.ks _ 34).setRow HP.out.ks cs) ?_
      clear hX HO HRG
      rintro v0 h
      have HV0 := Lib.hid h
      clear h
      obtain ⟨rw0, hrw0⟩ : ∃ c, c = repC m := ⟨_, rfl⟩
      have HE_rw0 := Lib.hid hrw0
      have HZ_rw0 : Hid (rw0.size = 21) := Lib.hid (by rw [hrw0]; rfl)
      have H1_rw0 : Hid (rw0.all (·.oneCell') = true) := Lib.hid (by rw [hrw0]; exact repC_one _)
      have HQ : Hid (Calls Try.prog 12 #[ptr b] v0 fun e w' => e = .returned (.agg rw0) ∧ One F w w' [(XA, cs, 34)] b m) := Lib.hid (by rw [hrw0]; exact one_reply HP.out HV0.out HM.out)
      clear hrw0
      go_wp2_with fail
      refine HQ.out.mono ?_
      rintro e v1 ⟨rfl, h⟩
      have HV1 := Lib.hid h
      clear h HQ HV0
      go_upto_region 10 with (first | (refine wpList_plain rfl fun _ hK => wp_store_row 44 (.tmp 9) (.tmp 48) rfl v1.heap.size rw0 rfl rfl 44 _ (Rw.new v1 _ 44) (by rw [HZ_rw0.out]; exact i21) (by rw [HZ_rw0.out]; rfl) H1_rw0.out (hK _ _ ?_); clear hK))
      obtain ⟨XW, hX⟩ : ∃ X, X = v1.heap.size := ⟨_, rfl⟩
      rw [← hX]
      refine name_w (fun V => One F w V [(XW, rw0, 44), (XA, cs, 34)] b m) (by rw [hX]; exact (HV1.out.alloc HP.out.ks _ 44).setRow HP.out.ks rw0) ?_
      clear hX HV1
      rintro v2 h
      have HV2 := Lib.hid h
      clear h
      obtain ⟨m1, hm1⟩ : ∃ x, x = (actM m a).1 := ⟨_, rfl⟩
      obtain ⟨r1, hr1⟩ : ∃ x, x = (actM m a).2 := ⟨_, rfl⟩
      have HM1 : Hid (MdN 810 m1) := Lib.hid (by rw [hm1]; exact HM.out.act a (Nat.le_trans HAO.out (by decide)))
      have HD1 := Lib.hid (HDO.out _ _ HV2.out)
      rw [← hm1, ← hr1] at HD1
      have Hm1 := Lib.hid hm1
      have Hr1 := Lib.hid hr1
      clear hm1 hr1 HDO
      go_wp2_with (first | (refine wpList_load_any (by rfl) 34 (.tmp 8) rfl XA rfl 34 cs (0, 0) _ HV2.out.row2 Try.underlying34 rfl (by rw [HZC.out]; exact i10) ?_))
      refine HD1.out.mono ?_
      rintro e v3 ⟨rfl, h⟩
      have HV3 := Lib.hid h
      clear h HD1 HV2
      obtain ⟨rn0, hrn0⟩ : ∃ c, c = repC m1 := ⟨_, rfl⟩
      have HE_rn0 := Lib.hid hrn0
      have HZ_rn0 : Hid (rn0.size = 21) := Lib.hid (by rw [hrn0]; rfl)
      have H1_rn0 : Hid (rn0.all (·.oneCell') = true) := Lib.hid (by rw [hrn0]; exact repC_one _)
      have HQ : Hid (Calls Try.prog 12 #[ptr b] v3 fun e w' => e = .returned (.agg rn0) ∧ One F w w' [(XW, rw0, 44), (XA, cs, 34)] b m1) := Lib.hid (by rw [hrn0]; exact one_reply HP.out HV3.out HM1.out)
      clear hrn0
      go_wp2_with fail
      refine HQ.out.mono ?_
      rintro e v4 ⟨rfl, h⟩
      have HV4 := Lib.hid h
      clear h HQ HV3
      go_upto_region 12 with (first | (refine wpList_plain rfl fun _ hK => wp_store_row 44 (.tmp 10) (.tmp 53) rfl v4.heap.size rn0 rfl rfl 44 _ (Rw.new v4 _ 44) (by rw [HZ_rn0.out]; exact i21) (by rw [HZ_rn0.out]; rfl) H1_rn0.out (hK _ _ ?_); clear hK))
      obtain ⟨XN, hX⟩ : ∃ X, X = v4.heap.size := ⟨_, rfl⟩
      rw [← hX]
      refine name_w (fun V => One F w V [(XN, rn0, 44), (XW, rw0, 44), (XA, cs, 34)] b m1) (by rw [hX]; exact (HV4.out.alloc HP.out.ks _ 44).setRow HP.out.ks rn0) ?_
      clear hX HV4
      rintro v5 h
      have HV5 := Lib.hid h
      clear h
      obtain ⟨s0, hs0⟩ : ∃ x, x = m.ro.slot := ⟨_, rfl⟩
      obtain ⟨g0, hg0⟩ : ∃ x, x = m.ro.gen := ⟨_, rfl⟩
      obtain ⟨s1, hs1⟩ : ∃ x, x = m1.ro.slot := ⟨_, rfl⟩
      obtain ⟨g1, hg1⟩ : ∃ x, x = m1.ro.gen := ⟨_, rfl⟩
      obtain ⟨kd, hkd⟩ : ∃ x, x = a.kind := ⟨_, rfl⟩
      obtain ⟨ac, hac⟩ : ∃ x, x = m.s.ac := ⟨_, rfl⟩
      obtain ⟨sw, hsw⟩ : ∃ x, x = m.s.sw := ⟨_, rfl⟩
      have HTO : Hid ((s1 = s0 ∧ g1 = g0) ∨ (kd = 2 ∧ s1 = 1 - ac ∧ g0 < g1 ∧ poS m.s = true ∧ (sw = 0 → fullO m = true))) := Lib.hid (by
        rw [hs0, hg0, hs1, hg1, hkd, hac, hsw, Hm1.out]
        exact act_to HM.out.inv a)
      have HRS : Hid (m.s.ac = 0 ∨ m.s.ac = 1) := Lib.hid (right_in HM.out.inv.right).1
      have RN := Lib.hid (rep_cell HV5.out.row1 HE_rn0.out hs1 hg1)
      have RW := Lib.hid (rep_cell HV5.out.row2 HE_rw0.out hs0 hg0)
      obtain ⟨cb2, hcb⟩ : ∃ c, c = (s1 == s0 && g1 == g0) := ⟨_, rfl⟩
      have hq := eq34 s1 g1 s0 g0
      rw [← hcb] at hq
      have HCB := Lib.hid hcb
      have x0 : v5.cell? ⟨XA, 0, none⟩ = some (.int .i64 kd) := by rw [HV5.out.row3.cell, HCS.out]; rw [hkd]; rfl
      have x1 : v5.cell? ⟨XN, 13, none⟩ = some (.int .i64 s1) := by rw [HV5.out.row1.cell, HE_rn0.out]; rw [hs1]; rfl
      have x2 : v5.cell? ⟨XN, 14, none⟩ = some (.int .i64 g1) := by rw [HV5.out.row1.cell, HE_rn0.out]; rw [hg1]; rfl
      have x3 : v5.cell? ⟨XW, 14, none⟩ = some (.int .i64 g0) := by rw [HV5.out.row2.cell, HE_rw0.out]; rw [hg0]; rfl
      have x4 : v5.cell? ⟨XW, 2, none⟩ = some (.int .i64 ac) := by rw [HV5.out.row2.cell, HE_rw0.out]; rw [hac]; rfl
      have x5 : v5.cell? ⟨XW, 11, none⟩ = some (.int .i64 sw) := by rw [HV5.out.row2.cell, HE_rw0.out]; rw [hsw]; rfl
      have x7 : v5.cell? ⟨XW, 7, none⟩ = some (.bool m.s.p0) := by rw [HV5.out.row2.cell, HE_rw0.out]; rfl
      have x8 : v5.cell? ⟨XW, 8, none⟩ = some (.bool m.s.p1) := by rw [HV5.out.row2.cell, HE_rw0.out]; rfl
      have HSW := Lib.hid hsw
      have HAC := Lib.hid hac
      clear hs0 hg0 hs1 hg1 hkd hac hsw hcb
      go_upto_if 58 with (first | (refine load_mid (by rfl) 40 (.tmp 54) rfl XN 13 rfl #[.int .i64 s1, .int .i64 g1] _ RN.out Try.underlying40 rfl i34 ?_) | (refine load_mid (by rfl) 40 (.tmp 56) rfl XW 13 rfl #[.int .i64 s0, .int .i64 g0] _ RW.out Try.underlying40 rfl i34 ?_))
      go_cut [] from 59 (fun W => One F w W [(XN, rn0, 44), (XW, rw0, 44), (XA, cs, 34)] b m1)
      case first =>
        cases cb2 with
        | true =>
          go_wp2
          go_meet
          case rel => exact HV5.out
        | false =>
        have HT : Hid (kd = 2 ∧ s1 = 1 - ac ∧ g0 < g1 ∧ poS m.s = true ∧ (sw = 0 → fullO m = true)) := Lib.hid (by
          rcases HTO.out with ⟨e1, e2⟩ | e
          · have h := HCB.out
            rw [e1, e2] at h
            simp at h
          · exact e)
        obtain ⟨rfl, hs, hg, hpo, -⟩ := HT.out
        have e1 : decide (g1 ≤ g0) = false := decide_eq_false (by omega)
        have hac2 : ac = 0 ∨ ac = 1 := by rw [HAC.out]; exact HRS.out
        have HPO := Lib.hid hpo
        clear hg hpo HTO HCB hq
        by_cases hw : sw = 0
        case neg =>
          have w1 : (sw == 0) = false := beq_eq_false_iff_ne.2 hw
          clear hw
          rcases hac2 with rfl | rfl
          · have HQ : Hid (m.s.p1 = true) := Lib.hid (by have h := HPO.out; unfold poS at h; rw [← HAC.out, if_pos rfl] at h; exact h)
            obtain rfl : s1 = 1 := by omega
            rw [HQ.out] at x8
            clear hs HQ
            go_wp2
            go_meet
            case rel => exact HV5.out
          · have HQ : Hid (m.s.p0 = true) := Lib.hid (by have h := HPO.out; unfold poS at h; rw [← HAC.out, if_neg (by decide)] at h; exact h)
            obtain rfl : s1 = 0 := by omega
            rw [HQ.out] at x7
            clear hs HQ
            go_wp2
            go_meet
            case rel => exact HV5.out
        case pos =>
          subst hw
          have hfu := HT.out.2.2.2.2 rfl
          have HFU : Hid (∀ W, Calls Try.prog 15 #[.agg (stC m.s), .agg (vwC (viewM m)), .int .i64 (1 - ac)] W fun e w' => e = .returned (.bool true) ∧ Below W.heap.size W w') := Lib.hid (fun W => by rw [HAC.out, ← hfu]; exact full_any m W)
          have RS := Lib.hid (rep_st HV5.out.row2 HE_rw0.out)
          have RV := Lib.hid (rep_vw HV5.out.row2 HE_rw0.out)
          clear hfu
          rcases hac2 with rfl | rfl
          · have HQ : Hid (m.s.p1 = true) := Lib.hid (by have h := HPO.out; unfold poS at h; rw [← HAC.out, if_pos rfl] at h; exact h)
            obtain rfl : s1 = 1 := by omega
            rw [HQ.out] at x8
            clear hs HQ
            go_wp2_with (first | (refine load_mid (by rfl) 38 (.tmp 96) rfl XW 1 rfl (stC m.s) _ RS.out Try.underlying38 rfl i12 ?_) | (refine load_mid (by rfl) 42 (.tmp 98) rfl XW 15 rfl (vwC (viewM m)) _ RV.out Try.underlying42 rfl i4v ?_))
            have hfu := HFU.out v5
            refine (HV5.out.aside HP.out.ks hfu).mono ?_
            rintro e v40 ⟨rfl, h⟩
            have HV40 := Lib.hid h
            clear h hfu
            go_wp2
            go_meet
            case rel => exact HV40.out
          · have HQ : Hid (m.s.p0 = true) := Lib.hid (by have h := HPO.out; unfold poS at h; rw [← HAC.out, if_neg (by decide)] at h; exact h)
            obtain rfl : s1 = 0 := by omega
            rw [HQ.out] at x7
            clear hs HQ
            go_wp2_with (first | (refine load_mid (by rfl) 38 (.tmp 96) rfl XW 1 rfl (stC m.s) _ RS.out Try.underlying38 rfl i12 ?_) | (refine load_mid (by rfl) 42 (.tmp 98) rfl XW 15 rfl (vwC (viewM m)) _ RV.out Try.underlying42 rfl i4v ?_))
            have hfu := HFU.out v5
            refine (HV5.out.aside HP.out.ks hfu).mono ?_
            rintro e v40 ⟨rfl, h⟩
            have HV40 := Lib.hid h
            clear h hfu
            go_wp2
            go_meet
            case rel => exact HV40.out
      case rest =>
        clear x0 x1 x2 x3 x4 x5 x7 x8 hq RN RW HTO HCB HV5
        have HC1 := Lib.hid hcut
        clear hcut
        obtain ⟨ac1, hac1⟩ : ∃ x, x = m1.s.ac := ⟨_, rfl⟩
        obtain ⟨sw1, hsw1⟩ : ∃ x, x = m1.s.sw := ⟨_, rfl⟩
        obtain ⟨s2, hs2⟩ : ∃ x, x = m1.ro.slot := ⟨_, rfl⟩
        obtain ⟨g2, hg2⟩ : ∃ x, x = m1.ro.gen := ⟨_, rfl⟩
        obtain ⟨gn1, hgn1⟩ : ∃ x, x = m1.s.gn := ⟨_, rfl⟩
        have hci := cell_in HM1.out.inv
        rw [← hac1, ← hsw1, ← hs2, ← hg2, ← hgn1] at hci
        have y0 : wc.cell? ⟨XN, 13, none⟩ = some (.int .i64 s2) := by rw [HC1.out.row1.cell, HE_rn0.out]; rw [hs2]; rfl
        have y1 : wc.cell? ⟨XN, 14, none⟩ = some (.int .i64 g2) := by rw [HC1.out.row1.cell, HE_rn0.out]; rw [hg2]; rfl
        have y2 : wc.cell? ⟨XN, 2, none⟩ = some (.int .i64 ac1) := by rw [HC1.out.row1.cell, HE_rn0.out]; rw [hac1]; rfl
        have y3 : wc.cell? ⟨XN, 11, none⟩ = some (.int .i64 sw1) := by rw [HC1.out.row1.cell, HE_rn0.out]; rw [hsw1]; rfl
        have y4 : wc.cell? ⟨XN, 10, none⟩ = some (.int .i64 gn1) := by rw [HC1.out.row1.cell, HE_rn0.out]; rw [hgn1]; rfl
        clear hac1 hsw1 hs2 hg2 hgn1
        have e1 : decide (gn1 < g2) = false := decide_eq_false (by omega)
        by_cases hs : s2 = ac1
        case pos =>
          have e2 : (s2 == ac1) = true := by rw [hs]; exact beq_self_eq_true _
          have e3 : (s2 != ac1) = false := by rw [bne, e2]; rfl
          clear hs hci
          go_wp2
          go_roundg (xs.length - (k + 1))
          case measure => have := HGh.out; have := HK.out; omega
          case rel => exact ⟨k + 1, Lib.hid rfl, HK.out, by go_num, Lib.hid (by rw [HNX.out, ← Hm1.out]; exact HC1.out.nil)⟩
        have e2 : (s2 == ac1) = false := beq_eq_false_iff_ne.2 hs
        have e3 : (s2 != ac1) = true := by rw [bne, e2]; rfl
        obtain rfl : sw1 = 2 := by omega
        clear hs hci
        go_wp2
        go_roundg (xs.length - (k + 1))
        case measure => have := HGh.out; have := HK.out; omega
        case rel => exact ⟨k + 1, Lib.hid rfl, HK.out, by go_num, Lib.hid (by rw [HNX.out, ← Hm1.out]; exact HC1.out.nil)⟩
end Go.Proofs.Ytchaeidmjoelnaa.modelSwitches
