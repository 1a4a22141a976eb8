/-
  switchback's ModelAborts: an abort ahead of a commit leaves the route as it is, and the active slot; one behind the switch, and a post-gate that fails, leads back to the slot that was active. For every input the law returns true, and each argument reads afterwards as it read before. No condition beside the row's own.
-/
import Derived.Test.YtchaeidmjoelnaaMdG
import Derived.Deep.LoopGhost
import Derived.Deep.Cut
import Derived.Deep.RegionHeld3
import Derived.Deep.QuietTactic
import Derived.BigQuiet
namespace Go.Proofs.Ytchaeidmjoelnaa.modelAborts
open Go.Proofs.Ytchaeidmjoelnaa
open Go.ChangeShapes Go.WideShapes Go.ChangeAt Go.RowKit
set_option linter.unusedVariables false

/-- What is asked for. -/
def askO (m : Md) (fl : Bool) : Oc := if fl = true ∧ m.s.ph = 4 then opPost (raS m.s) false else opAbort
theorem ask_is {m : Md} (h : MdI m) (fl : Bool) : ((opM m (askO m fl)).2 = 7 ∧ (opM m (askO m fl)).1 = m) ∨ ((opM m (askO m fl)).2 = 0 ∧ AbortTo m (opM m (askO m fl)).1) := by
  unfold askO
  split
  · rename_i e
    exact .inr (post_fails h e.2)
  · exact abort_is h
theorem fits_ra {m : Md} (h : MdI m) : Fits (raS m.s) := by
  have := right_ra h.right
  unfold Fits
  omega
theorem ask_fits {m : Md} (h : MdI m) (fl : Bool) : FitsO (askO m fl) := by
  unfold askO
  split
  · exact ⟨fin _ (by simp [opPost]), fits_ra h, fin _ (by simp [opPost]), fin _ (by simp [opPost])⟩
  · exact fo _ _ _ _ _ (by omega)
set_option maxRecDepth 100000 in
set_option maxHeartbeats 8000000 in
theorem walk_false {F : ObIn Md} (hp : PkgMd F) (v : Value) (xs : List Am) (w : World) (hx : ActsI w v xs) : Calls Try.prog 6 #[v, .bool false] w (Holds w) := by
  obtain ⟨A0, c0, rfl⟩ := hx.shape
  have HP := Lib.hid hp
  have HX := Lib.hid hx
  have HAW : Hid (∀ W, Calls Try.prog 9 #[] W fun e w' => e = .returned (.bool true) ∧ Below W.heap.size W w') := Lib.hid (awake_any hp)
  obtain ⟨gr, hgr⟩ : ∃ b, b = greatB xs := ⟨_, rfl⟩
  have HGR : Hid (∀ W, Below w.heap.size w W → Calls Try.prog 10 #[.slice A0 xs.length c0] W fun e w' => e = .returned (.bool gr) ∧ Below W.heap.size W w') := Lib.hid (fun W hb => by rw [hgr]; exact great_any _ _ _ (hx.under hb))
  have HG := Lib.hid hgr
  obtain ⟨m0, hm0⟩ : ∃ m, m = newM (firstS 1 2) 1 := ⟨_, rfl⟩
  have N0 : Hid (MdN 0 m0) := Lib.hid (by rw [hm0]; exact mdn_new rs12)
  have HNW : Hid (Calls Try.prog 11 #[.int .i64 1, .int .i64 2, .int .i64 1] w fun e w' => ∃ b, e = .returned (.tuple #[ptr b, .int .i64 0]) ∧ NewO F w w' b m0) := Lib.hid (by rw [hm0]; exact new_yes hp w rs12 (fin _ (by omega)) (fin _ (by omega)) (fin _ (by omega)))
  clear hp hx hgr hm0
  go_enter Try.func6, Try.ntmps6
  go_wp2_with fail
  refine HNW.out.mono ?_
  rintro e u1 ⟨b, rfl, h⟩
  have H1 : Hid (One F w u1 [] b m0) := Lib.hid (h.one (Below.refl _ _))
  clear h HNW
  go_wp2_with fail
  refine (H1.out.aside HP.out.ks (HAW.out _)).mono ?_
  rintro e u2 ⟨rfl, h⟩
  have H2 := Lib.hid h
  clear h H1
  go_wp2_with fail
  refine (H2.out.aside HP.out.ks (HGR.out _ H2.out.low)).mono ?_
  rintro e u3 ⟨rfl, h⟩
  have H3 := Lib.hid h
  clear h H2
  cases gr with
  | true =>
    go_wp2_with fail
    refine (H3.out.aside HP.out.ks (HAW.out _)).mono ?_
    rintro e u4 ⟨rfl, h⟩
    have H4 := Lib.hid h.low
    clear h H3
    go_wp2
    go_ret
    exact ⟨rfl, H4.out⟩
  | false =>
  have HGN := Lib.hid (great_no HG.out.symm)
  clear HAW HGR HG
  go_wp2
  go_loopg [31] xs.length (fun m' iv wr => ∃ k : Nat, Hid (m' = xs.length - k) ∧ k ≤ xs.length ∧ iv = .int .i64 (k : Int) ∧ Hid (One F w wr [] b (actsM m0 (xs.take k))))
  case atStart => exact ⟨0, Lib.hid rfl, Nat.zero_le _, rfl, H3⟩
  case round =>
    obtain ⟨k, HGh, hk, rfl, HO⟩ := hrel
    clear H3
    by_cases hlt : k < xs.length
    case neg =>
      have d1 : decide ((k : Int) < (xs.length : Int)) = false := by simp; omega
      have d2 : decide (k < xs.length) = false := decide_eq_false hlt
      obtain rfl : k = xs.length := by omega
      rw [List.take_length] at HO
      clear hk hlt HGh
      obtain ⟨m, hm⟩ : ∃ m, m = actsM m0 xs := ⟨_, rfl⟩
      rw [← hm] at HO
      have HM : Hid (MdN 800 m) := Lib.hid (by rw [hm]; exact mdn_all N0.out HGN.out)
      clear hm d1 d2
      obtain ⟨rw0, hrw0⟩ : ∃ c, c = repC m := ⟨_, rfl⟩
      have HE_rw0 := Lib.hid hrw0
      have HZ_rw0 : Hid (rw0.size = 21) := Lib.hid (by rw [hrw0]; rfl)
      have H1_rw0 : Hid (rw0.all (·.oneCell') = true) := Lib.hid (by rw [hrw0]; exact repC_one _)
      have HQ : Hid (Calls Try.prog 12 #[ptr b] wr fun e w' => e = .returned (.agg rw0) ∧ One F w w' [] b m) := Lib.hid (by rw [hrw0]; exact one_reply HP.out HO.out HM.out)
      clear hrw0
      go_wp2_with fail
      refine HQ.out.mono ?_
      rintro e v1 ⟨rfl, h⟩
      have HV1 := Lib.hid h
      clear h HQ HO
      go_upto_region 10 with (first | (refine wpList_plain rfl fun _ hK => wp_store_row 44 (.tmp 9) (.tmp 40) rfl v1.heap.size rw0 rfl rfl 44 _ (Rw.new v1 _ 44) (by rw [HZ_rw0.out]; exact i21) (by rw [HZ_rw0.out]; rfl) H1_rw0.out (hK _ _ ?_); clear hK))
      obtain ⟨XW, hX⟩ : ∃ X, X = v1.heap.size := ⟨_, rfl⟩
      rw [← hX]
      refine name_w (fun V => One F w V [(XW, rw0, 44)] b m) (by rw [hX]; exact (HV1.out.alloc HP.out.ks _ 44).setRow HP.out.ks rw0) ?_
      clear hX HV1
      rintro v2 h
      have HV2 := Lib.hid h
      clear h
      obtain ⟨sc, hsc⟩ : ∃ c, c = stC m.s := ⟨_, rfl⟩
      have HE_sc := Lib.hid hsc
      have HZ_sc : Hid (sc.size = 12) := Lib.hid (by rw [hsc]; rfl)
      have H1_sc : Hid (sc.all (·.oneCell') = true) := Lib.hid (by rw [hsc]; exact stC_one _)
      have RS := Lib.hid (rep_st HV2.out.row1 HE_rw0.out)
      rw [← hsc] at RS
      clear hsc
      go_upto_region 11 with (first | (refine load_mid (by rfl) 38 (.tmp 41) rfl XW 1 rfl sc _ RS.out Try.underlying38 rfl (by rw [HZ_sc.out]; exact i12) ?_) | (refine wpList_plain rfl fun _ hK => wp_store_row 38 (.tmp 10) (.tmp 42) rfl v2.heap.size sc rfl rfl 38 _ (Rw.new v2 _ 38) (by rw [HZ_sc.out]; exact i12) (by rw [HZ_sc.out]; rfl) H1_sc.out (hK _ _ ?_); clear hK))
      obtain ⟨XS, hX⟩ : ∃ X, X = v2.heap.size := ⟨_, rfl⟩
      rw [← hX]
      refine name_w (fun V => One F w V [(XS, sc, 38), (XW, rw0, 44)] b m) (by rw [hX]; exact (HV2.out.alloc HP.out.ks _ 38).setRow HP.out.ks sc) ?_
      clear hX HV2 RS
      rintro v20 h
      have HV20 := Lib.hid h
      clear h
      go_upto_region 12 with (first | (refine wpList_plain rfl fun _ hK => wp_store_row 31 (.tmp 11) (.tmp 43) rfl v20.heap.size (opC opAbort) rfl rfl 31 _ (Rw.new v20 _ 31) i5 rfl (opC_one _) (hK _ _ ?_); clear hK))
      obtain ⟨XO, hX⟩ : ∃ X, X = v20.heap.size := ⟨_, rfl⟩
      rw [← hX]
      refine name_w (fun V => One F w V [(XO, (opC opAbort), 31), (XS, sc, 38), (XW, rw0, 44)] b m) (by rw [hX]; exact (HV20.out.alloc HP.out.ks _ 31).setRow HP.out.ks (opC opAbort)) ?_
      clear hX HV20
      rintro v21 h
      have HV21 := Lib.hid h
      clear h
      obtain ⟨ph, hph⟩ : ∃ x, x = m.s.ph := ⟨_, rfl⟩
      obtain ⟨ac, hac⟩ : ∃ x, x = m.s.ac := ⟨_, rfl⟩
      obtain ⟨o, ho⟩ : ∃ o, o = askO m false := ⟨_, rfl⟩
      have HPH := Lib.hid hph
      have HAC := Lib.hid hac
      have HAS := Lib.hid ho
      have hac2 : ac = 0 ∨ ac = 1 := by rw [hac]; exact (right_in HM.out.inv.right).1
      have HA2 := Lib.hid hac2
      have z0 : v21.cell? ⟨XS, 0, none⟩ = some (.int .i64 ph) := by rw [HV21.out.row2.cell, HE_sc.out]; rw [hph]; rfl
      have z1 : v21.cell? ⟨XS, 1, none⟩ = some (.int .i64 ac) := by rw [HV21.out.row2.cell, HE_sc.out]; rw [hac]; rfl
      have z2 : v21.cell? ⟨XS, 2, none⟩ = some (.int .i64 m.s.r0) := by rw [HV21.out.row2.cell, HE_sc.out]; rfl
      have z3 : v21.cell? ⟨XS, 3, none⟩ = some (.int .i64 m.s.r1) := by rw [HV21.out.row2.cell, HE_sc.out]; rfl
      clear hph hac hac2 ho
      have HOE : Hid (o = opAbort) := Lib.hid (by rw [HAS.out]; unfold askO; rw [if_neg (by simp)])
      have HC1 : Hid (One F w v21 [(XO, (opC o), 31), (XS, sc, 38), (XW, rw0, 44)] b m) := Lib.hid (by rw [HOE.out]; exact HV21.out)
      obtain ⟨wc, hwc⟩ : ∃ x, x = v21 := ⟨_, rfl⟩
      clear z0 z1 z2 z3 HV21
      rw [← hwc] at HC1 ⊢
      clear hwc
      obtain ⟨r, hr⟩ : ∃ r, r = (opM m o).2 := ⟨_, rfl⟩
      obtain ⟨m2, hm2⟩ : ∃ x, x = (opM m o).1 := ⟨_, rfl⟩
      have HIS : Hid ((r = 7 ∧ m2 = m) ∨ (r = 0 ∧ AbortTo m m2)) := Lib.hid (by rw [hr, hm2, HAS.out]; exact ask_is HM.out.inv false)
      have HM2 : Hid (MdN 800 m2) := Lib.hid (by rw [hm2]; exact HM.out.op _)
      have HOP : Hid (Calls Try.prog 16 #[ptr b, .agg (opC o)] wc fun e w' => e = .returned (.int .i64 r) ∧ One F w w' [(XO, (opC o), 31), (XS, sc, 38), (XW, rw0, 44)] b m2) := Lib.hid (by rw [hr, hm2]; exact one_op HP.out HC1.out HM.out o (by rw [HAS.out]; exact ask_fits HM.out.inv false))
      clear hr hm2
      go_wp2_with (first | (refine wpList_load_any (by rfl) 31 (.tmp 11) rfl XO rfl 31 (opC o) (0, 0) _ HC1.out.row1 Try.underlying31 rfl i5 ?_))
      refine HOP.out.mono ?_
      rintro e v30 ⟨rfl, h⟩
      have HV30 := Lib.hid h
      clear h HOP HC1
      obtain ⟨rn0, hrn0⟩ : ∃ c, c = repC m2 := ⟨_, rfl⟩
      have HE_rn0 := Lib.hid hrn0
      have HZ_rn0 : Hid (rn0.size = 21) := Lib.hid (by rw [hrn0]; rfl)
      have H1_rn0 : Hid (rn0.all (·.oneCell') = true) := Lib.hid (by rw [hrn0]; exact repC_one _)
      have HQ : Hid (Calls Try.prog 12 #[ptr b] v30 fun e w' => e = .returned (.agg rn0) ∧ One F w w' [(XO, (opC o), 31), (XS, sc, 38), (XW, rw0, 44)] b m2) := Lib.hid (by rw [hrn0]; exact one_reply HP.out HV30.out HM2.out)
      clear hrn0
      go_wp2_with fail
      refine HQ.out.mono ?_
      rintro e v61 ⟨rfl, h⟩
      have HV61 := Lib.hid h
      clear h HQ HV30
      go_upto_region 16 with (first | (refine wpList_plain rfl fun _ hK => wp_store_row 44 (.tmp 13) (.tmp 60) rfl v61.heap.size rn0 rfl rfl 44 _ (Rw.new v61 _ 44) (by rw [HZ_rn0.out]; exact i21) (by rw [HZ_rn0.out]; rfl) H1_rn0.out (hK _ _ ?_); clear hK))
      obtain ⟨XN, hX⟩ : ∃ X, X = v61.heap.size := ⟨_, rfl⟩
      rw [← hX]
      refine name_w (fun V => One F w V [(XN, rn0, 44), (XO, (opC o), 31), (XS, sc, 38), (XW, rw0, 44)] b m2) (by rw [hX]; exact (HV61.out.alloc HP.out.ks _ 44).setRow HP.out.ks rn0) ?_
      clear hX HV61
      rintro v62 h
      have HV62 := Lib.hid h
      clear h
      rcases HIS.out with ⟨rfl, hmm⟩ | ⟨rfl, hab⟩
      case inl =>
        have HEQ : Hid (rn0 = rw0) := Lib.hid (by rw [HE_rn0.out, HE_rw0.out, hmm])
        clear hmm HIS
        have hq : ∀ w, (Op.equalIn 10000 44 (.agg rn0) (.agg rw0)).run Try.prog w = .ok true w := by rw [HEQ.out, HE_rw0.out]; exact eq44 HM.out.inv.fits
        go_wp2_with (first | (refine wpList_load_any (by rfl) 44 (.tmp 13) rfl XN rfl 44 rn0 (0, 0) _ HV62.out.row1 Try.underlying44 rfl (by rw [HZ_rn0.out]; exact i21) ?_) | (refine wpList_load_any (by rfl) 44 (.tmp 9) rfl XW rfl 44 rw0 (0, 0) _ HV62.out.row4 Try.underlying44 rfl (by rw [HZ_rw0.out]; exact i21) ?_))
        go_ret
        exact ⟨rfl, HV62.out.low⟩
      obtain ⟨s0, hs0⟩ : ∃ x, x = m.ro.slot := ⟨_, rfl⟩
      obtain ⟨g0, hg0⟩ : ∃ x, x = m.ro.gen := ⟨_, rfl⟩
      obtain ⟨ph2, hph2⟩ : ∃ x, x = m2.s.ph := ⟨_, rfl⟩
      have HAB := Lib.hid hab
      have RN := Lib.hid (rep_cell (s := s0) (g := g0) HV62.out.row1 HE_rn0.out (by rw [hs0, hab.1]) (by rw [hg0, hab.1]))
      have RW := Lib.hid (rep_cell HV62.out.row4 HE_rw0.out hs0 hg0)
      have hq : ∀ w, (Op.equalIn 10000 40 (.agg #[.int .i64 s0, .int .i64 g0]) (.agg #[.int .i64 s0, .int .i64 g0])).run Try.prog w = .ok true w := by
        have h := eq34 s0 g0 s0 g0
        simpa using h
      have HPH2 := Lib.hid hph2
      clear hs0 hg0 hab HIS
      have y0 : v62.cell? ⟨XN, 1, none⟩ = some (.int .i64 ph2) := by rw [HV62.out.row1.cell, HE_rn0.out]; rw [hph2]; rfl
      have y1 : v62.cell? ⟨XN, 2, none⟩ = some (.int .i64 ac) := by rw [HV62.out.row1.cell, HE_rn0.out]; rw [HAC.out, ← HAB.out.2.1]; rfl
      have y2 : v62.cell? ⟨XS, 0, none⟩ = some (.int .i64 ph) := by rw [HV62.out.row3.cell, HE_sc.out]; rw [HPH.out]; rfl
      have y3 : v62.cell? ⟨XS, 1, none⟩ = some (.int .i64 ac) := by rw [HV62.out.row3.cell, HE_sc.out]; rw [HAC.out]; rfl
      have e0 : (ac != ac) = false := bne_self_eq_false _
      clear hph2
      by_cases hp45 : ph = 4 ∨ ph = 5
      case pos =>
        have h6 : ph2 = 6 := by rw [HPH2.out]; exact (HAB.out.2.2.2 (by rw [← HPH.out]; exact hp45)).1
        have HWW : Hid (m2.s.w0 = m.s.w0 ∧ m2.s.w1 = m.s.w1) := Lib.hid (HAB.out.2.2.2 (by rw [← HPH.out]; exact hp45)).2
        subst h6
        have RA : Hid (v62.rangeAt XN 5 (#[.int .i64 m.s.w0, .int .i64 m.s.w1] : Array Value).toList) := Lib.hid (HV62.out.row1.range _ (fun j v hv => by
          rw [HE_rn0.out]
          match j, hv with
          | 0, hv => rw [← hv, ← HWW.out.1]; rfl
          | 1, hv => rw [← hv, ← HWW.out.2]; rfl
          | j + 2, hv => simp at hv))
        have RB : Hid (v62.rangeAt XS 4 (#[.int .i64 m.s.w0, .int .i64 m.s.w1] : Array Value).toList) := Lib.hid (HV62.out.row3.range _ (fun j v hv => by
          rw [HE_sc.out]
          match j, hv with
          | 0, hv | 1, hv => exact hv
          | j + 2, hv => simp at hv))
        have hq2 := eq22 HM.out.inv.fits.s.w0 HM.out.inv.fits.s.w1
        have i2a : (Try.prog.info? 35).map (·.size) = some 2 := by kernel_rfl
        rcases hp45 with rfl | rfl
        · go_wp2_with (first | (refine load_mid (by rfl) 40 (.tmp 70) rfl XN 13 rfl #[.int .i64 s0, .int .i64 g0] _ RN.out Try.underlying40 rfl i34 ?_) | (refine load_mid (by rfl) 40 (.tmp 72) rfl XW 13 rfl #[.int .i64 s0, .int .i64 g0] _ RW.out Try.underlying40 rfl i34 ?_) | (refine load_mid (by rfl) 35 (.tmp 111) rfl XN 5 rfl #[.int .i64 m.s.w0, .int .i64 m.s.w1] _ RA.out Try.underlying35 rfl i2a ?_) | (refine load_mid (by rfl) 35 (.tmp 113) rfl XS 4 rfl #[.int .i64 m.s.w0, .int .i64 m.s.w1] _ RB.out Try.underlying35 rfl i2a ?_))
          go_ret
          exact ⟨rfl, HV62.out.low⟩
        · go_wp2_with (first | (refine load_mid (by rfl) 40 (.tmp 70) rfl XN 13 rfl #[.int .i64 s0, .int .i64 g0] _ RN.out Try.underlying40 rfl i34 ?_) | (refine load_mid (by rfl) 40 (.tmp 72) rfl XW 13 rfl #[.int .i64 s0, .int .i64 g0] _ RW.out Try.underlying40 rfl i34 ?_) | (refine load_mid (by rfl) 35 (.tmp 111) rfl XN 5 rfl #[.int .i64 m.s.w0, .int .i64 m.s.w1] _ RA.out Try.underlying35 rfl i2a ?_) | (refine load_mid (by rfl) 35 (.tmp 113) rfl XS 4 rfl #[.int .i64 m.s.w0, .int .i64 m.s.w1] _ RB.out Try.underlying35 rfl i2a ?_))
          go_ret
          exact ⟨rfl, HV62.out.low⟩
      have h4 : (ph == 4) = false := beq_eq_false_iff_ne.2 (fun h => hp45 (.inl h))
      have h5 : (ph == 5) = false := beq_eq_false_iff_ne.2 (fun h => hp45 (.inr h))
      have h4b : (ph != 4) = true := by rw [bne, h4]; rfl
      have h5b : (ph != 5) = true := by rw [bne, h5]; rfl
      have hz := HAB.out.2.2.1 (by rw [← HPH.out]; omega)
      have h0 : ph2 = 0 := by rw [HPH2.out]; exact hz.1
      have HWK : Hid (wK m2.s (1 - ac) = 0) := Lib.hid (by rw [HAC.out]; exact hz.2)
      subst h0
      clear hp45 hz
      rcases HA2.out with rfl | rfl
      · have HL0 : Hid ((m2.l.length : Int) = 0) := Lib.hid (by rw [HM2.out.inv.ll]; exact HWK.out)
        have y5 : v62.cell? ⟨XN, 16, none⟩ = some (.int .i64 0) := by rw [HV62.out.row1.cell, HE_rn0.out, ← HL0.out]; rfl
        clear HA2
        go_wp2_with (first | (refine load_mid (by rfl) 40 (.tmp 70) rfl XN 13 rfl #[.int .i64 s0, .int .i64 g0] _ RN.out Try.underlying40 rfl i34 ?_) | (refine load_mid (by rfl) 40 (.tmp 72) rfl XW 13 rfl #[.int .i64 s0, .int .i64 g0] _ RW.out Try.underlying40 rfl i34 ?_))
        go_ret
        exact ⟨rfl, HV62.out.low⟩
      · have HL0 : Hid ((m2.k.length : Int) = 0) := Lib.hid (by rw [HM2.out.inv.lk]; exact HWK.out)
        have y5 : v62.cell? ⟨XN, 15, none⟩ = some (.int .i64 0) := by rw [HV62.out.row1.cell, HE_rn0.out, ← HL0.out]; rfl
        clear HA2
        go_wp2_with (first | (refine load_mid (by rfl) 40 (.tmp 70) rfl XN 13 rfl #[.int .i64 s0, .int .i64 g0] _ RN.out Try.underlying40 rfl i34 ?_) | (refine load_mid (by rfl) 40 (.tmp 72) rfl XW 13 rfl #[.int .i64 s0, .int .i64 g0] _ RW.out Try.underlying40 rfl i34 ?_))
        go_ret
        exact ⟨rfl, HV62.out.low⟩
    case pos =>
      have HK := Lib.hid hlt
      have hk80 : k < 80 := by have := HGN.out.1; omega
      have d1 : decide ((k : Int) < (xs.length : Int)) = true := by simp; omega
      have d2 : decide (k < xs.length) = true := decide_eq_true hlt
      obtain ⟨m, hm⟩ : ∃ m, m = actsM m0 (xs.take k) := ⟨_, rfl⟩
      rw [← hm] at HO
      have HM : Hid (MdN 800 m) := Lib.hid (by rw [hm]; exact mdn_take N0.out HGN.out k hk)
      obtain ⟨bb, oo, u, hA, hrg, hui, hfa⟩ := HX.out.kth0 HO.out.low hlt
      subst hA
      obtain ⟨a, ha⟩ : ∃ a, a = xs[k] := ⟨_, rfl⟩
      have HUI : Hid (IntsI w u a.outs) := Lib.hid (by rw [ha]; exact hui)
      have HFA : Hid (FitsA a) := Lib.hid (by rw [ha]; exact hfa)
      have HAO : Hid (a.outs.length ≤ 50) := Lib.hid (by rw [ha]; exact HGN.out.2 xs[k] (List.getElem_mem hlt))
      have HA := Lib.hid ha
      obtain ⟨cs, hcs⟩ : ∃ c, c = amC a u := ⟨_, rfl⟩
      have HRG : Hid (wr.rangeAt bb (oo + k * 10) cs.toList) := Lib.hid (by rw [hcs, ha]; exact hrg)
      have HZC : Hid (cs.size = 10) := Lib.hid (by rw [hcs]; rfl)
      have H1C : Hid (cs.all (·.oneCell') = true) := Lib.hid (by
        obtain ⟨A', c', hu⟩ := IntsI.shape hui
        rw [hcs, hu]
        exact amC_one _ _ _ _)
      have HCS := Lib.hid hcs
      have HDO : Hid (∀ L V, One F w V L b m → Calls Try.prog 13 #[ptr b, .agg cs] V fun e w' => e = .returned (.int .i64 (actM m a).2) ∧ One F w w' L b (actM m a).1) := Lib.hid (fun L V h => by rw [hcs]; exact do_any HP.out a u h HM.out (by decide) (HUI.out.under h.low (Nat.le_refl _)) HFA.out (Nat.le_trans HAO.out (by decide)))
      have HNX : Hid (actsM m0 (xs.take (k + 1)) = (actM m a).1) := Lib.hid (by rw [hm, ha]; exact acts_take m0 xs k hlt)
      clear hm hrg hui hfa ha hcs hlt
      go_upto_region 7 with (first | (refine load_mid (by rfl) 34 (.tmp 33) rfl bb (oo + k * 10) rfl cs _ HRG.out Try.underlying34 rfl (by rw [HZC.out]; exact i10) ?_) | (refine wpList_plain rfl fun _ hK => wp_store_row 34 (.tmp 8) (.tmp 34) rfl wr.heap.size cs rfl rfl 34 _ (Rw.new wr _ 34) (by rw [HZC.out]; exact i10) (by rw [HZC.out]; rfl) H1C.out (hK _ _ ?_); clear hK))
      obtain ⟨XA, hX⟩ : ∃ X, X = wr.heap.size := ⟨_, rfl⟩
      rw [← hX]
      refine name_w (fun V => One F w V [(XA, cs, 34)] b m) (by rw [hX]; exact (HO.out.alloc HP.out.ks _ 34).setRow HP.out.ks cs) ?_
      clear hX HO HRG
      rintro v0 h
      have HV0 := Lib.hid h
      clear h
      obtain ⟨m1, hm1⟩ : ∃ x, x = (actM m a).1 := ⟨_, rfl⟩
      obtain ⟨r1, hr1⟩ : ∃ x, x = (actM m a).2 := ⟨_, rfl⟩
      have HM1 : Hid (MdN 810 m1) := Lib.hid (by rw [hm1]; exact HM.out.act a (Nat.le_trans HAO.out (by decide)))
      have HD1 := Lib.hid (HDO.out _ _ HV0.out)
      rw [← hm1, ← hr1] at HD1
      have Hm1 := Lib.hid hm1
      have Hr1 := Lib.hid hr1
      clear hm1 hr1 HDO
      go_wp2_with (first | (refine wpList_load_any (by rfl) 34 (.tmp 8) rfl XA rfl 34 cs (0, 0) _ HV0.out.row1 Try.underlying34 rfl (by rw [HZC.out]; exact i10) ?_))
      refine HD1.out.mono ?_
      rintro e v1 ⟨rfl, h⟩
      have HV1 := Lib.hid h
      clear h HD1 HV0
      go_wp2
      go_roundg (xs.length - (k + 1))
      case measure => have := HGh.out; have := HK.out; omega
      case rel => exact ⟨k + 1, Lib.hid rfl, HK.out, by go_num, Lib.hid (by rw [HNX.out, ← Hm1.out]; exact HV1.out.nil)⟩
set_option maxRecDepth 100000 in
set_option maxHeartbeats 8000000 in
theorem walk_true {F : ObIn Md} (hp : PkgMd F) (v : Value) (xs : List Am) (w : World) (hx : ActsI w v xs) : Calls Try.prog 6 #[v, .bool true] w (Holds w) := by
  obtain ⟨A0, c0, rfl⟩ := hx.shape
  have HP := Lib.hid hp
  have HX := Lib.hid hx
  have HAW : Hid (∀ W, Calls Try.prog 9 #[] W fun e w' => e = .returned (.bool true) ∧ Below W.heap.size W w') := Lib.hid (awake_any hp)
  obtain ⟨gr, hgr⟩ : ∃ b, b = greatB xs := ⟨_, rfl⟩
  have HGR : Hid (∀ W, Below w.heap.size w W → Calls Try.prog 10 #[.slice A0 xs.length c0] W fun e w' => e = .returned (.bool gr) ∧ Below W.heap.size W w') := Lib.hid (fun W hb => by rw [hgr]; exact great_any _ _ _ (hx.under hb))
  have HG := Lib.hid hgr
  obtain ⟨m0, hm0⟩ : ∃ m, m = newM (firstS 1 2) 1 := ⟨_, rfl⟩
  have N0 : Hid (MdN 0 m0) := Lib.hid (by rw [hm0]; exact mdn_new rs12)
  have HNW : Hid (Calls Try.prog 11 #[.int .i64 1, .int .i64 2, .int .i64 1] w fun e w' => ∃ b, e = .returned (.tuple #[ptr b, .int .i64 0]) ∧ NewO F w w' b m0) := Lib.hid (by rw [hm0]; exact new_yes hp w rs12 (fin _ (by omega)) (fin _ (by omega)) (fin _ (by omega)))
  clear hp hx hgr hm0
  go_enter Try.func6, Try.ntmps6
  go_wp2_with fail
  refine HNW.out.mono ?_
  rintro e u1 ⟨b, rfl, h⟩
  have H1 : Hid (One F w u1 [] b m0) := Lib.hid (h.one (Below.refl _ _))
  clear h HNW
  go_wp2_with fail
  refine (H1.out.aside HP.out.ks (HAW.out _)).mono ?_
  rintro e u2 ⟨rfl, h⟩
  have H2 := Lib.hid h
  clear h H1
  go_wp2_with fail
  refine (H2.out.aside HP.out.ks (HGR.out _ H2.out.low)).mono ?_
  rintro e u3 ⟨rfl, h⟩
  have H3 := Lib.hid h
  clear h H2
  cases gr with
  | true =>
    go_wp2_with fail
    refine (H3.out.aside HP.out.ks (HAW.out _)).mono ?_
    rintro e u4 ⟨rfl, h⟩
    have H4 := Lib.hid h.low
    clear h H3
    go_wp2
    go_ret
    exact ⟨rfl, H4.out⟩
  | false =>
  have HGN := Lib.hid (great_no HG.out.symm)
  clear HAW HGR HG
  go_wp2
  go_loopg [31] xs.length (fun m' iv wr => ∃ k : Nat, Hid (m' = xs.length - k) ∧ k ≤ xs.length ∧ iv = .int .i64 (k : Int) ∧ Hid (One F w wr [] b (actsM m0 (xs.take k))))
  case atStart => exact ⟨0, Lib.hid rfl, Nat.zero_le _, rfl, H3⟩
  case round =>
    obtain ⟨k, HGh, hk, rfl, HO⟩ := hrel
    clear H3
    by_cases hlt : k < xs.length
    case neg =>
      have d1 : decide ((k : Int) < (xs.length : Int)) = false := by simp; omega
      have d2 : decide (k < xs.length) = false := decide_eq_false hlt
      obtain rfl : k = xs.length := by omega
      rw [List.take_length] at HO
      clear hk hlt HGh
      obtain ⟨m, hm⟩ : ∃ m, m = actsM m0 xs := ⟨_, rfl⟩
      rw [← hm] at HO
      have HM : Hid (MdN 800 m) := Lib.hid (by rw [hm]; exact mdn_all N0.out HGN.out)
      clear hm d1 d2
      obtain ⟨rw0, hrw0⟩ : ∃ c, c = repC m := ⟨_, rfl⟩
      have HE_rw0 := Lib.hid hrw0
      have HZ_rw0 : Hid (rw0.size = 21) := Lib.hid (by rw [hrw0]; rfl)
      have H1_rw0 : Hid (rw0.all (·.oneCell') = true) := Lib.hid (by rw [hrw0]; exact repC_one _)
      have HQ : Hid (Calls Try.prog 12 #[ptr b] wr fun e w' => e = .returned (.agg rw0) ∧ One F w w' [] b m) := Lib.hid (by rw [hrw0]; exact one_reply HP.out HO.out HM.out)
      clear hrw0
      go_wp2_with fail
      refine HQ.out.mono ?_
      rintro e v1 ⟨rfl, h⟩
      have HV1 := Lib.hid h
      clear h HQ HO
      go_upto_region 10 with (first | (refine wpList_plain rfl fun _ hK => wp_store_row 44 (.tmp 9) (.tmp 40) rfl v1.heap.size rw0 rfl rfl 44 _ (Rw.new v1 _ 44) (by rw [HZ_rw0.out]; exact i21) (by rw [HZ_rw0.out]; rfl) H1_rw0.out (hK _ _ ?_); clear hK))
      obtain ⟨XW, hX⟩ : ∃ X, X = v1.heap.size := ⟨_, rfl⟩
      rw [← hX]
      refine name_w (fun V => One F w V [(XW, rw0, 44)] b m) (by rw [hX]; exact (HV1.out.alloc HP.out.ks _ 44).setRow HP.out.ks rw0) ?_
      clear hX HV1
      rintro v2 h
      have HV2 := Lib.hid h
      clear h
      obtain ⟨sc, hsc⟩ : ∃ c, c = stC m.s := ⟨_, rfl⟩
      have HE_sc := Lib.hid hsc
      have HZ_sc : Hid (sc.size = 12) := Lib.hid (by rw [hsc]; rfl)
      have H1_sc : Hid (sc.all (·.oneCell') = true) := Lib.hid (by rw [hsc]; exact stC_one _)
      have RS := Lib.hid (rep_st HV2.out.row1 HE_rw0.out)
      rw [← hsc] at RS
      clear hsc
      go_upto_region 11 with (first | (refine load_mid (by rfl) 38 (.tmp 41) rfl XW 1 rfl sc _ RS.out Try.underlying38 rfl (by rw [HZ_sc.out]; exact i12) ?_) | (refine wpList_plain rfl fun _ hK => wp_store_row 38 (.tmp 10) (.tmp 42) rfl v2.heap.size sc rfl rfl 38 _ (Rw.new v2 _ 38) (by rw [HZ_sc.out]; exact i12) (by rw [HZ_sc.out]; rfl) H1_sc.out (hK _ _ ?_); clear hK))
      obtain ⟨XS, hX⟩ : ∃ X, X = v2.heap.size := ⟨_, rfl⟩
      rw [← hX]
      refine name_w (fun V => One F w V [(XS, sc, 38), (XW, rw0, 44)] b m) (by rw [hX]; exact (HV2.out.alloc HP.out.ks _ 38).setRow HP.out.ks sc) ?_
      clear hX HV2 RS
      rintro v20 h
      have HV20 := Lib.hid h
      clear h
      go_upto_region 12 with (first | (refine wpList_plain rfl fun _ hK => wp_store_row 31 (.tmp 11) (.tmp 43) rfl v20.heap.size (opC opAbort) rfl rfl 31 _ (Rw.new v20 _ 31) i5 rfl (opC_one _) (hK _ _ ?_); clear hK))
      obtain ⟨XO, hX⟩ : ∃ X, X = v20.heap.size := ⟨_, rfl⟩
      rw [← hX]
      refine name_w (fun V => One F w V [(XO, (opC opAbort), 31), (XS, sc, 38), (XW, rw0, 44)] b m) (by rw [hX]; exact (HV20.out.alloc HP.out.ks _ 31).setRow HP.out.ks (opC opAbort)) ?_
      clear hX HV20
      rintro v21 h
      have HV21 := Lib.hid h
      clear h
      obtain ⟨ph, hph⟩ : ∃ x, x = m.s.ph := ⟨_, rfl⟩
      obtain ⟨ac, hac⟩ : ∃ x, x = m.s.ac := ⟨_, rfl⟩
      obtain ⟨o, ho⟩ : ∃ o, o = askO m true := ⟨_, rfl⟩
      have HPH := Lib.hid hph
      have HAC := Lib.hid hac
      have HAS := Lib.hid ho
      have hac2 : ac = 0 ∨ ac = 1 := by rw [hac]; exact (right_in HM.out.inv.right).1
      have HA2 := Lib.hid hac2
      have z0 : v21.cell? ⟨XS, 0, none⟩ = some (.int .i64 ph) := by rw [HV21.out.row2.cell, HE_sc.out]; rw [hph]; rfl
      have z1 : v21.cell? ⟨XS, 1, none⟩ = some (.int .i64 ac) := by rw [HV21.out.row2.cell, HE_sc.out]; rw [hac]; rfl
      have z2 : v21.cell? ⟨XS, 2, none⟩ = some (.int .i64 m.s.r0) := by rw [HV21.out.row2.cell, HE_sc.out]; rfl
      have z3 : v21.cell? ⟨XS, 3, none⟩ = some (.int .i64 m.s.r1) := by rw [HV21.out.row2.cell, HE_sc.out]; rfl
      clear hph hac hac2 ho
      go_upto_if 49 with (fail)
      go_cut [] from 50 (fun W => One F w W [(XO, (opC o), 31), (XS, sc, 38), (XW, rw0, 44)] b m)
      case first =>
        by_cases h4 : ph = 4
        case neg =>
          have e1 : (ph == 4) = false := beq_eq_false_iff_ne.2 h4
          have HOE : Hid (o = opAbort) := Lib.hid (by rw [HAS.out]; unfold askO; rw [if_neg (by rw [← HPH.out]; simp [h4])])
          clear h4
          go_wp2
          go_meet
          case rel => rw [HOE.out]; exact HV21.out
        subst h4
        have HOE : Hid (o = opPost (raS m.s) false) := Lib.hid (by rw [HAS.out]; unfold askO; rw [if_pos ⟨rfl, HPH.out.symm⟩])
        rcases HA2.out with rfl | rfl
        · have HRA : Hid (raS m.s = m.s.r0) := Lib.hid (by unfold raS; rw [if_pos HAC.out.symm])
          clear HA2
          go_wp2_with (first | (refine wpList_plain rfl fun _ hK => wp_store_row 31 (.tmp 11) (.tmp 55) rfl XO (opC (opPost m.s.r0 false)) rfl rfl 31 _ HV21.out.row1 i5 rfl (opC_one _) (hK _ _ ?_); clear hK))
          go_meet
          case rel =>
            rw [HOE.out, HRA.out]
            exact HV21.out.setRow HP.out.ks (opC (opPost m.s.r0 false))
        · have HRA : Hid (raS m.s = m.s.r1) := Lib.hid (by unfold raS; rw [if_neg (by rw [← HAC.out]; decide)])
          clear HA2
          go_wp2_with (first | (refine wpList_plain rfl fun _ hK => wp_store_row 31 (.tmp 11) (.tmp 55) rfl XO (opC (opPost m.s.r1 false)) rfl rfl 31 _ HV21.out.row1 i5 rfl (opC_one _) (hK _ _ ?_); clear hK))
          go_meet
          case rel =>
            rw [HOE.out, HRA.out]
            exact HV21.out.setRow HP.out.ks (opC (opPost m.s.r1 false))
      case rest =>
        have HC1 := Lib.hid hcut
        clear z0 z1 z2 z3 HV21 hcut
        obtain ⟨r, hr⟩ : ∃ r, r = (opM m o).2 := ⟨_, rfl⟩
        obtain ⟨m2, hm2⟩ : ∃ x, x = (opM m o).1 := ⟨_, rfl⟩
        have HIS : Hid ((r = 7 ∧ m2 = m) ∨ (r = 0 ∧ AbortTo m m2)) := Lib.hid (by rw [hr, hm2, HAS.out]; exact ask_is HM.out.inv true)
        have HM2 : Hid (MdN 800 m2) := Lib.hid (by rw [hm2]; exact HM.out.op _)
        have HOP : Hid (Calls Try.prog 16 #[ptr b, .agg (opC o)] wc fun e w' => e = .returned (.int .i64 r) ∧ One F w w' [(XO, (opC o), 31), (XS, sc, 38), (XW, rw0, 44)] b m2) := Lib.hid (by rw [hr, hm2]; exact one_op HP.out HC1.out HM.out o (by rw [HAS.out]; exact ask_fits HM.out.inv true))
        clear hr hm2
        go_wp2_with (first | (refine wpList_load_any (by rfl) 31 (.tmp 11) rfl XO rfl 31 (opC o) (0, 0) _ HC1.out.row1 Try.underlying31 rfl i5 ?_))
        refine HOP.out.mono ?_
        rintro e v30 ⟨rfl, h⟩
        have HV30 := Lib.hid h
        clear h HOP HC1
        obtain ⟨rn0, hrn0⟩ : ∃ c, c = repC m2 := ⟨_, rfl⟩
        have HE_rn0 := Lib.hid hrn0
        have HZ_rn0 : Hid (rn0.size = 21) := Lib.hid (by rw [hrn0]; rfl)
        have H1_rn0 : Hid (rn0.all (·.oneCell') = true) := Lib.hid (by rw [hrn0]; exact repC_one _)
        have HQ : Hid (Calls Try.prog 12 #[ptr b] v30 fun e w' => e = .returned (.agg rn0) ∧ One F w w' [(XO, (opC o), 31), (XS, sc, 38), (XW, rw0, 44)] b m2) := Lib.hid (by rw [hrn0]; exact one_reply HP.out HV30.out HM2.out)
        clear hrn0
        go_wp2_with fail
        refine HQ.out.mono ?_
        rintro e v61 ⟨rfl, h⟩
        have HV61 := Lib.hid h
        clear h HQ HV30
        go_upto_region 16 with (first | (refine wpList_plain rfl fun _ hK => wp_store_row 44 (.tmp 13) (.tmp 60) rfl v61.heap.size rn0 rfl rfl 44 _ (Rw.new v61 _ 44) (by rw [HZ_rn0.out]; exact i21) (by rw [HZ_rn0.out]; rfl) H1_rn0.out (hK _ _ ?_); clear hK))
        obtain ⟨XN, hX⟩ : ∃ X, X = v61.heap.size := ⟨_, rfl⟩
        rw [← hX]
        refine name_w (fun V => One F w V [(XN, rn0, 44), (XO, (opC o), 31), (XS, sc, 38), (XW, rw0, 44)] b m2) (by rw [hX]; exact (HV61.out.alloc HP.out.ks _ 44).setRow HP.out.ks rn0) ?_
        clear hX HV61
        rintro v62 h
        have HV62 := Lib.hid h
        clear h
        rcases HIS.out with ⟨rfl, hmm⟩ | ⟨rfl, hab⟩
        case inl =>
          have HEQ : Hid (rn0 = rw0) := Lib.hid (by rw [HE_rn0.out, HE_rw0.out, hmm])
          clear hmm HIS
          have hq : ∀ w, (Op.equalIn 10000 44 (.agg rn0) (.agg rw0)).run Try.prog w = .ok true w := by rw [HEQ.out, HE_rw0.out]; exact eq44 HM.out.inv.fits
          go_wp2_with (first | (refine wpList_load_any (by rfl) 44 (.tmp 13) rfl XN rfl 44 rn0 (0, 0) _ HV62.out.row1 Try.underlying44 rfl (by rw [HZ_rn0.out]; exact i21) ?_) | (refine wpList_load_any (by rfl) 44 (.tmp 9) rfl XW rfl 44 rw0 (0, 0) _ HV62.out.row4 Try.underlying44 rfl (by rw [HZ_rw0.out]; exact i21) ?_))
          go_ret
          exact ⟨rfl, HV62.out.low⟩
        obtain ⟨s0, hs0⟩ : ∃ x, x = m.ro.slot := ⟨_, rfl⟩
        obtain ⟨g0, hg0⟩ : ∃ x, x = m.ro.gen := ⟨_, rfl⟩
        obtain ⟨ph2, hph2⟩ : ∃ x, x = m2.s.ph := ⟨_, rfl⟩
        have HAB := Lib.hid hab
        have RN := Lib.hid (rep_cell (s := s0) (g := g0) HV62.out.row1 HE_rn0.out (by rw [hs0, hab.1]) (by rw [hg0, hab.1]))
        have RW := Lib.hid (rep_cell HV62.out.row4 HE_rw0.out hs0 hg0)
        have hq : ∀ w, (Op.equalIn 10000 40 (.agg #[.int .i64 s0, .int .i64 g0]) (.agg #[.int .i64 s0, .int .i64 g0])).run Try.prog w = .ok true w := by
          have h := eq34 s0 g0 s0 g0
          simpa using h
        have HPH2 := Lib.hid hph2
        clear hs0 hg0 hab HIS
        have y0 : v62.cell? ⟨XN, 1, none⟩ = some (.int .i64 ph2) := by rw [HV62.out.row1.cell, HE_rn0.out]; rw [hph2]; rfl
        have y1 : v62.cell? ⟨XN, 2, none⟩ = some (.int .i64 ac) := by rw [HV62.out.row1.cell, HE_rn0.out]; rw [HAC.out, ← HAB.out.2.1]; rfl
        have y2 : v62.cell? ⟨XS, 0, none⟩ = some (.int .i64 ph) := by rw [HV62.out.row3.cell, HE_sc.out]; rw [HPH.out]; rfl
        have y3 : v62.cell? ⟨XS, 1, none⟩ = some (.int .i64 ac) := by rw [HV62.out.row3.cell, HE_sc.out]; rw [HAC.out]; rfl
        have e0 : (ac != ac) = false := bne_self_eq_false _
        clear hph2
        by_cases hp45 : ph = 4 ∨ ph = 5
        case pos =>
          have h6 : ph2 = 6 := by rw [HPH2.out]; exact (HAB.out.2.2.2 (by rw [← HPH.out]; exact hp45)).1
          have HWW : Hid (m2.s.w0 = m.s.w0 ∧ m2.s.w1 = m.s.w1) := Lib.hid (HAB.out.2.2.2 (by rw [← HPH.out]; exact hp45)).2
          subst h6
          have RA : Hid (v62.rangeAt XN 5 (#[.int .i64 m.s.w0, .int .i64 m.s.w1] : Array Value).toList) := Lib.hid (HV62.out.row1.range _ (fun j v hv => by
            rw [HE_rn0.out]
            match j, hv with
            | 0, hv => rw [← hv, ← HWW.out.1]; rfl
            | 1, hv => rw [← hv, ← HWW.out.2]; rfl
            | j + 2, hv => simp at hv))
          have RB : Hid (v62.rangeAt XS 4 (#[.int .i64 m.s.w0, .int .i64 m.s.w1] : Array Value).toList) := Lib.hid (HV62.out.row3.range _ (fun j v hv => by
            rw [HE_sc.out]
            match j, hv with
            | 0, hv | 1, hv => exact hv
            | j + 2, hv => simp at hv))
          have hq2 := eq22 HM.out.inv.fits.s.w0 HM.out.inv.fits.s.w1
          have i2a : (Try.prog.info? 35).map (·.size) = some 2 := by kernel_rfl
          rcases hp45 with rfl | rfl
          · go_wp2_with (first | (refine load_mid (by rfl) 40 (.tmp 70) rfl XN 13 rfl #[.int .i64 s0, .int .i64 g0] _ RN.out Try.underlying40 rfl i34 ?_) | (refine load_mid (by rfl) 40 (.tmp 72) rfl XW 13 rfl #[.int .i64 s0, .int .i64 g0] _ RW.out Try.underlying40 rfl i34 ?_) | (refine load_mid (by rfl) 35 (.tmp 111) rfl XN 5 rfl #[.int .i64 m.s.w0, .int .i64 m.s.w1] _ RA.out Try.underlying35 rfl i2a ?_) | (refine load_mid (by rfl) 35 (.tmp 113) rfl XS 4 rfl #[.int .i64 m.s.w0, .int .i64 m.s.w1] _ RB.out Try.underlying35 rfl i2a ?_))
            go_ret
            exact ⟨rfl, HV62.out.low⟩
          · go_wp2_with (first | (refine load_mid (by rfl) 40 (.tmp 70) rfl XN 13 rfl #[.int .i64 s0, .int .i64 g0] _ RN.out Try.underlying40 rfl i34 ?_) | (refine load_mid (by rfl) 40 (.tmp 72) rfl XW 13 rfl #[.int .i64 s0, .int .i64 g0] _ RW.out Try.underlying40 rfl i34 ?_) | (refine load_mid (by rfl) 35 (.tmp 111) rfl XN 5 rfl #[.int .i64 m.s.w0, .int .i64 m.s.w1] _ RA.out Try.underlying35 rfl i2a ?_) | (refine load_mid (by rfl) 35 (.tmp 113) rfl XS 4 rfl #[.int .i64 m.s.w0, .int .i64 m.s.w1] _ RB.out Try.underlying35 rfl i2a ?_))
            go_ret
            exact ⟨rfl, HV62.out.low⟩
        have h4 : (ph == 4) = false := beq_eq_false_iff_ne.2 (fun h => hp45 (.inl h))
        have h5 : (ph == 5) = false := beq_eq_false_iff_ne.2 (fun h => hp45 (.inr h))
        have h4b : (ph != 4) = true := by rw [bne, h4]; rfl
        have h5b : (ph != 5) = true := by rw [bne, h5]; rfl
        have hz := HAB.out.2.2.1 (by rw [← HPH.out]; omega)
        have h0 : ph2 = 0 := by rw [HPH2.out]; exact hz.1
        have HWK : Hid (wK m2.s (1 - ac) = 0) := Lib.hid (by rw [HAC.out]; exact hz.2)
        subst h0
        clear hp45 hz
        rcases HA2.out with rfl | rfl
        · have HL0 : Hid ((m2.l.length : Int) = 0) := Lib.hid (by rw [HM2.out.inv.ll]; exact HWK.out)
          have y5 : v62.cell? ⟨XN, 16, none⟩ = some (.int .i64 0) := by rw [HV62.out.row1.cell, HE_rn0.out, ← HL0.out]; rfl
          clear HA2
          go_wp2_with (first | (refine load_mid (by rfl) 40 (.tmp 70) rfl XN 13 rfl #[.int .i64 s0, .int .i64 g0] _ RN.out Try.underlying40 rfl i34 ?_) | (refine load_mid (by rfl) 40 (.tmp 72) rfl XW 13 rfl #[.int .i64 s0, .int .i64 g0] _ RW.out Try.underlying40 rfl i34 ?_))
          go_ret
          exact ⟨rfl, HV62.out.low⟩
        · have HL0 : Hid ((m2.k.length : Int) = 0) := Lib.hid (by rw [HM2.out.inv.lk]; exact HWK.out)
          have y5 : v62.cell? ⟨XN, 15, none⟩ = some (.int .i64 0) := by rw [HV62.out.row1.cell, HE_rn0.out, ← HL0.out]; rfl
          clear HA2
          go_wp2_with (first | (refine load_mid (by rfl) 40 (.tmp 70) rfl XN 13 rfl #[.int .i64 s0, .int .i64 g0] _ RN.out Try.underlying40 rfl i34 ?_) | (refine load_mid (by rfl) 40 (.tmp 72) rfl XW 13 rfl #[.int .i64 s0, .int .i64 g0] _ RW.out Try.underlying40 rfl i34 ?_))
          go_ret
          exact ⟨rfl, HV62.out.low⟩
    case pos =>
      have HK := Lib.hid hlt
      have hk80 : k < 80 := by have := HGN.out.1; omega
      have d1 : decide ((k : Int) < (xs.length : Int)) = true := by simp; omega
      have d2 : decide (k < xs.length) = true := decide_eq_true hlt
      obtain ⟨m, hm⟩ : ∃ m, m = actsM m0 (xs.take k) := ⟨_, rfl⟩
      rw [← hm] at HO
      have HM : Hid (MdN 800 m) := Lib.hid (by rw [hm]; exact mdn_take N0.out HGN.out k hk)
      obtain ⟨bb, oo, u, hA, hrg, hui, hfa⟩ := HX.out.kth0 HO.out.low hlt
      subst hA
      obtain ⟨a, ha⟩ : ∃ a, a = xs[k] := ⟨_, rfl⟩
      have HUI : Hid (IntsI w u a.outs) := Lib.hid (by rw [ha]; exact hui)
      have HFA : Hid (FitsA a) := Lib.hid (by rw [ha]; exact hfa)
      have HAO : Hid (a.outs.length ≤ 50) := Lib.hid (by rw [ha]; exact HGN.out.2 xs[k] (List.getElem_mem hlt))
      have HA := Lib.hid ha
      obtain ⟨cs, hcs⟩ : ∃ c, c = amC a u := ⟨_, rfl⟩
      have HRG : Hid (wr.rangeAt bb (oo + k * 10) cs.toList) := Lib.hid (by rw [hcs, ha]; exact hrg)
      have HZC : Hid (cs.size = 10) := Lib.hid (by rw [hcs]; rfl)
      have H1C : Hid (cs.all (·.oneCell') = true) := Lib.hid (by
        obtain ⟨A', c', hu⟩ := IntsI.shape hui
        rw [hcs, hu]
        exact amC_one _ _ _ _)
      have HCS := Lib.hid hcs
      have HDO : Hid (∀ L V, One F w V L b m → Calls Try.prog 13 #[ptr b, .agg cs] V fun e w' => e = .returned (.int .i64 (actM m a).2) ∧ One F w w' L b (actM m a).1) := Lib.hid (fun L V h => by rw [hcs]; exact do_any HP.out a u h HM.out (by decide) (HUI.out.under h.low (Nat.le_refl _)) HFA.out (Nat.le_trans HAO.out (by decide)))
      have HNX : Hid (actsM m0 (xs.take (k + 1)) = (actM m a).1) := Lib.hid (by rw [hm, ha]; exact acts_take m0 xs k hlt)
      clear hm hrg hui hfa ha hcs hlt
      go_upto_region 7 with (first | (refine load_mid (by rfl) 34 (.tmp 33) rfl bb (oo + k * 10) rfl cs _ HRG.out Try.underlying34 rfl (by rw [HZC.out]; exact i10) ?_) | (refine wpList_plain rfl fun _ hK => wp_store_row 34 (.tmp 8) (.tmp 34) rfl wr.heap.size cs rfl rfl 34 _ (Rw.new wr _ 34) (by rw [HZC.out]; exact i10) (by rw [HZC.out]; rfl) H1C.out (hK _ _ ?_); clear hK))
      obtain ⟨XA, hX⟩ : ∃ X, X = wr.heap.size := ⟨_, rfl⟩
      rw [← hX]
      refine name_w (fun V => One F w V [(XA, cs, 34)] b m) (by rw [hX]; exact (HO.out.alloc HP.out.ks _ 34).setRow HP.out.ks cs) ?_
      clear hX HO HRG
      rintro v0 h
      have HV0 := Lib.hid h
      clear h
      obtain ⟨m1, hm1⟩ : ∃ x, x = (actM m a).1 := ⟨_, rfl⟩
      obtain ⟨r1, hr1⟩ : ∃ x, x = (actM m a).2 := ⟨_, rfl⟩
      have HM1 : Hid (MdN 810 m1) := Lib.hid (by rw [hm1]; exact HM.out.act a (Nat.le_trans HAO.out (by decide)))
      have HD1 := Lib.hid (HDO.out _ _ HV0.out)
      rw [← hm1, ← hr1] at HD1
      have Hm1 := Lib.hid hm1
      have Hr1 := Lib.hid hr1
      clear hm1 hr1 HDO
      go_wp2_with (first | (refine wpList_load_any (by rfl) 34 (.tmp 8) rfl XA rfl 34 cs (0, 0) _ HV0.out.row1 Try.underlying34 rfl (by rw [HZC.out]; exact i10) ?_))
      refine HD1.out.mono ?_
      rintro e v1 ⟨rfl, h⟩
      have HV1 := Lib.hid h
      clear h HD1 HV0
      go_wp2
      go_roundg (xs.length - (k + 1))
      case measure => have := HGh.out; have := HK.out; omega
      case rel => exact ⟨k + 1, Lib.hid rfl, HK.out, by go_num, Lib.hid (by rw [HNX.out, ← Hm1.out]; exact HV1.out.nil)⟩
theorem walk {F : ObIn Md} (hp : PkgMd F) (v : Value) (xs : List Am) (fl : Bool) (w : World) (hx : ActsI w v xs) : Calls Try.prog 6 #[v, .bool fl] w (Holds w) := by
  cases fl with
  | true => exact walk_true hp v xs w hx
  | false => exact walk_false hp v xs w hx
end Go.Proofs.Ytchaeidmjoelnaa.modelAborts
