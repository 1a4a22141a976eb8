/-
  switchback's FoldSnaps: Records that begin with a state go on from it, whatever was ahead; in whatever two parts records come, they make the same. For every input the law returns true, and each argument reads afterwards as it read before. No condition beside the row's own.
-/
import Derived.Test.YtoeelglmdnhknaaAwak
import Derived.Test.YtoeelglmdnhknaaSnp
import Derived.Deep.Cut
import Derived.Deep.RegionHeld3
namespace Go.Proofs.Ytoeelglmdnhknaa.foldSnaps
open Go.Proofs.Ytoeelglmdnhknaa
open Go.ChangeShapes Go.WideShapes Go.ChangeAt Go.RowKit
set_option linter.unusedVariables false

theorem fits_run : ∀ (rs : List Rc) (s : St), FitsS s → FitsS (runS s rs).1
  | [], s, h => h
  | r :: rs, s, h => by
    rw [runS]
    split
    · exact fits_run rs _ (fits_step r h)
    · exact h
theorem fits_all (s : St) (rs : List Rc) (h : FitsS s) (hr : ∀ r ∈ rs, FitsS r.st) : FitsS (allS s rs).1 := by
  cases rs with
  | nil => exact h
  | cons r rs =>
    rw [allS]
    split
    · split
      · exact fits_run rs _ (hr r (List.mem_cons_self ..))
      · exact h
    · exact fits_run (r :: rs) s h
/-- A slice literal whose outcome is known. -/
theorem wp_slice_is {P : Program} {o : Oper} {a : Act} {w w' : World} {K : Act → World → Prop} {Q : Exit → Act → World → Prop} (t : TypeId) (len : Nat) (parts : Array (Nat × Operand)) (ho : o.op = .buildSlice t len parts)
    (ps : Array (Nat × Value)) (hp : (parts.map fun (i, x) => (i, a.eval x)) = ps) {v' : Value} (hr : (Instr.buildSlice t len ps).run P w = .ok v' w') (h : K (a.put o.dst v') w') : o.wp P a w K Q := by
  unfold Oper.wp execOp
  simp only [ho, Sem.run_bind, hp, hr, Result.andThen_ok]
  exact h
set_option maxRecDepth 100000 in
set_option maxHeartbeats 16000000 in
theorem walk (s : St) (v : Value) (rs : List Rc) (at_ : Int) (w : World) (hs : FitsS s) (hv : RecsI w v rs) (hf : ∀ r ∈ rs, FitsR r) (ha : Fits at_) : Calls Try.prog 8 #[stV s, v, .int .i64 at_] w (Holds w) := by
  have HAW : Hid (∀ W, Calls Try.prog 13 #[] W fun e w' => e = .returned (.bool true) ∧ Below W.heap.size W w') := Lib.hid awake_any
  have HMR : Hid (∀ W, Calls Try.prog 15 #[stV s] W fun e w' => e = .returned (.bool (rightS s)) ∧ Below W.heap.size W w') := Lib.hid (fun W => mright_any s W)
  have HV := Lib.hid hv
  have HF := Lib.hid hf
  have HFS := Lib.hid hs
  have HFA := Lib.hid ha
  obtain ⟨rb, hrb⟩ : ∃ b, b = rightS s := ⟨_, rfl⟩
  rw [← hrb] at HMR
  have HRB := Lib.hid hrb
  unfold stV at HMR ⊢
  obtain ⟨cs, hcs⟩ : ∃ c, c = stC s := ⟨_, rfl⟩
  have HE_cs := Lib.hid hcs
  have HZ_cs : Hid (cs.size = 12) := Lib.hid (by rw [hcs]; rfl)
  have H1_cs : Hid (cs.all (·.oneCell') = true) := Lib.hid (by rw [hcs]; exact stC_one _)
  rw [← hcs] at HMR ⊢
  clear hcs hv hf hs ha hrb
  obtain ⟨n, Ad, cp, hvl, hnl⟩ : ∃ n A c, v = .slice A n c ∧ n = rs.length := by
    rcases HV.out with ⟨h | ⟨a, c, h⟩, h2⟩ | ⟨b, o, c, h, _⟩
    · exact ⟨0, none, 0, h, by rw [h2]; rfl⟩
    · exact ⟨0, _, _, h, by rw [h2]; rfl⟩
    · exact ⟨_, _, _, h, rfl⟩
  have HVL := Lib.hid hvl
  have HNL := Lib.hid hnl
  rw [hvl]
  rw [hvl] at HV
  clear hvl hnl
  go_enter Try.func8, Try.ntmps8
  go_upto_region 1 with (fail)
  refine name_w (fun W => Rw W w.heap.size cs 25 ∧ Below w.heap.size w W) ⟨Rw.new _ _ _, (Below.refl _ _).alloc (Nat.le_refl _) _⟩ ?_
  rintro u0 ⟨h0, h1⟩
  have R_A_0 := Lib.hid h0
  have BT0 := Lib.hid h1
  clear h0 h1
  go_wp2_with fail
  refine (HAW.out _).mono ?_
  rintro e u1 ⟨rfl, hb⟩
  have R_A_1 := Lib.hid (R_A_0.out.under hb R_A_0.out.lt)
  have BT1 := Lib.hid (BT0.out.trans (hb.mono BT0.out.size))
  clear hb BT0 R_A_0
  by_cases hbig : 200 < n
  case pos =>
    have f1 : decide (200 < n) = true := by simpa using hbig
    have f2 : decide ((200 : Int) < (n : Int)) = true := decide_eq_true (by omega)
    clear hbig
    go_upto_region 2 with (fail)
    clear f1 f2
    go_wp2_with fail
    refine (HAW.out _).mono ?_
    rintro e u2 ⟨rfl, hb⟩
    have R_A_2 := Lib.hid (R_A_1.out.under hb R_A_1.out.lt)
    have BT2 := Lib.hid (BT1.out.trans (hb.mono BT1.out.size))
    clear hb BT1 R_A_1
    go_wp2_with fail
    go_ret
    exact ⟨rfl, BT2.out⟩
  have HBG : Hid (n ≤ 200) := Lib.hid (by omega)
  have f1 : decide (200 < n) = false := by simpa using hbig
  have f2 : decide ((200 : Int) < (n : Int)) = false := decide_eq_false (by omega)
  clear hbig
  cases rb with
  | false =>
    clear HRB
    go_wp2_with (first | (refine wpList_load_any (by rfl) 25 (.tmp 3) rfl w.heap.size rfl 25 cs (0, 0) _ R_A_1.out Try.underlying25 rfl (by rw [HZ_cs.out]; exact i12) ?_))
    refine (HMR.out _).mono ?_
    rintro e u2 ⟨rfl, hb⟩
    have R_A_2 := Lib.hid (R_A_1.out.under hb R_A_1.out.lt)
    have BT2 := Lib.hid (BT1.out.trans (hb.mono BT1.out.size))
    clear hb BT1 R_A_1
    go_upto_region 2 with (fail)
    clear f1 f2
    go_wp2_with fail
    refine (HAW.out _).mono ?_
    rintro e u3 ⟨rfl, hb⟩
    have R_A_3 := Lib.hid (R_A_2.out.under hb R_A_2.out.lt)
    have BT3 := Lib.hid (BT2.out.trans (hb.mono BT2.out.size))
    clear hb BT2 R_A_2
    go_wp2_with fail
    go_ret
    exact ⟨rfl, BT3.out⟩
  | true =>
  by_cases hneg : at_ < 0
  case pos =>
    have f3 : decide (at_ < 0) = true := by simpa using hneg
    clear hneg
    go_wp2_with (first | (refine wpList_load_any (by rfl) 25 (.tmp 3) rfl w.heap.size rfl 25 cs (0, 0) _ R_A_1.out Try.underlying25 rfl (by rw [HZ_cs.out]; exact i12) ?_))
    refine (HMR.out _).mono ?_
    rintro e u2 ⟨rfl, hb⟩
    have R_A_2 := Lib.hid (R_A_1.out.under hb R_A_1.out.lt)
    have BT2 := Lib.hid (BT1.out.trans (hb.mono BT1.out.size))
    clear hb BT1 R_A_1
    go_upto_region 2 with (fail)
    clear f1 f2 f3
    go_wp2_with fail
    refine (HAW.out _).mono ?_
    rintro e u3 ⟨rfl, hb⟩
    have R_A_3 := Lib.hid (R_A_2.out.under hb R_A_2.out.lt)
    have BT3 := Lib.hid (BT2.out.trans (hb.mono BT2.out.size))
    clear hb BT2 R_A_2
    go_wp2_with fail
    go_ret
    exact ⟨rfl, BT3.out⟩
  have f3 : decide (at_ < 0) = false := by simpa using hneg
  by_cases hgt : (n : Int) < at_
  case pos =>
    have f4 : decide ((n : Int) < at_) = true := by simpa using hgt
    clear hneg hgt
    go_wp2_with (first | (refine wpList_load_any (by rfl) 25 (.tmp 3) rfl w.heap.size rfl 25 cs (0, 0) _ R_A_1.out Try.underlying25 rfl (by rw [HZ_cs.out]; exact i12) ?_))
    refine (HMR.out _).mono ?_
    rintro e u2 ⟨rfl, hb⟩
    have R_A_2 := Lib.hid (R_A_1.out.under hb R_A_1.out.lt)
    have BT2 := Lib.hid (BT1.out.trans (hb.mono BT1.out.size))
    clear hb BT1 R_A_1
    go_upto_region 2 with (fail)
    clear f1 f2 f3 f4
    go_wp2_with fail
    refine (HAW.out _).mono ?_
    rintro e u3 ⟨rfl, hb⟩
    have R_A_3 := Lib.hid (R_A_2.out.under hb R_A_2.out.lt)
    have BT3 := Lib.hid (BT2.out.trans (hb.mono BT2.out.size))
    clear hb BT2 R_A_2
    go_wp2_with fail
    go_ret
    exact ⟨rfl, BT3.out⟩
  have f4 : decide ((n : Int) < at_) = false := by simpa using hgt
  obtain ⟨a, haa⟩ : ∃ a : Nat, at_ = (a : Int) := ⟨at_.toNat, by omega⟩
  have HAA := Lib.hid haa
  have HAN : Hid (a ≤ rs.length) := Lib.hid (by rw [← HNL.out]; omega)
  clear hneg hgt haa
  go_wp2_with (first | (refine wpList_load_any (by rfl) 25 (.tmp 3) rfl w.heap.size rfl 25 cs (0, 0) _ R_A_1.out Try.underlying25 rfl (by rw [HZ_cs.out]; exact i12) ?_))
  refine (HMR.out _).mono ?_
  rintro e u2 ⟨rfl, hb⟩
  have R_A_2 := Lib.hid (R_A_1.out.under hb R_A_1.out.lt)
  have BT2 := Lib.hid (BT1.out.trans (hb.mono BT1.out.size))
  clear hb BT1 R_A_1
  clear HMR HAW
  go_upto_region 3 with (fail)
  clear f1 f2 f3 f4
  go_wp2
  have hn200 : n ≤ 200 := HBG.out
  go_loopg [42] n (fun m' i wr => ∃ k : Nat, Hid (m' = n - k) ∧ k ≤ n ∧ i = .int .i64 k ∧ Hid (∀ j (h : j < rs.length), j < k → rs[j].kind ≠ 11) ∧ Hid (Rw wr w.heap.size cs 25) ∧ Hid (Below w.heap.size w wr))
  case atStart => exact ⟨0, Lib.hid rfl, Nat.zero_le _, rfl, Lib.hid (fun j _ h => by omega), R_A_2, BT2⟩
  case round =>
    obtain ⟨k, HG, hk, rfl, HP, RK, BK⟩ := hrel
    clear R_A_2 BT2
    by_cases hlt : k < n
    case pos =>
      obtain ⟨b, o, hAd, hbl, hrg⟩ : ∃ b o, Ad = some ⟨b, o, none⟩ ∧ b < w.heap.size ∧ ∀ k (h : k < rs.length), w.rangeAt b (o + k * 19) (recC rs[k]).toList := by
        rcases HV.out with ⟨_, h2⟩ | ⟨b, o, c, h, _, _, h3, h4⟩
        · exfalso
          rw [HNL.out, h2] at hlt
          cases hlt
        · injection h with h5 _ _
          exact ⟨b, o, h5, h3, h4⟩
      subst hAd
      have hlr : k < rs.length := by rw [← HNL.out]; exact hlt
      have HKL := Lib.hid hlr
      obtain ⟨rc, hrc⟩ : ∃ c, c = recC rs[k] := ⟨_, rfl⟩
      obtain ⟨kd, hkd⟩ : ∃ c, c = rs[k].kind := ⟨_, rfl⟩
      have HRC := Lib.hid hrc
      have HKD := Lib.hid hkd
      have HZR : Hid (rc.size = 19) := Lib.hid (by rw [hrc]; rfl)
      have H1R : Hid (rc.all (·.oneCell') = true) := Lib.hid (by rw [hrc]; exact recC_one _)
      have HRG : Hid (wr.rangeAt b (o + k * 19) rc.toList) := Lib.hid (by rw [hrc]; exact rangeAt_under (hrg k hlr) BK.out hbl)
      have HKE : Hid (kd = rs[k].kind) := Lib.hid hkd
      clear hrc hkd hrg hbl hlr
      go_upto_region 6 with (first | (refine wpList_load_midany (by rfl) 27 (.tmp 44) rfl b (o + k * 19) rfl rc _ HRG.out Try.underlying27 rfl (by rw [HZR.out]; exact i19) ?_) | (refine wpList_plain rfl fun _ hK => wp_store_row 27 (.tmp 8) (.tmp 45) rfl wr.heap.size rc rfl rfl 27 _ (Rw.new wr _ 27) (by rw [HZR.out]; exact i19) (by rw [HZR.out]; rfl) H1R.out (hK _ _ ?_); clear hK))
      obtain ⟨Xb, hXb⟩ : ∃ X, X = wr.heap.size := ⟨_, rfl⟩
      rw [← hXb]
      refine name_w (fun W => Rw W w.heap.size cs 25 ∧ Rw W Xb rc 27 ∧ Below w.heap.size w W) ?_ ?_
      · have bb := below_setRow ((Below.refl wr.heap.size wr).alloc (Nat.le_refl _) (.cells zeroRC 27)) (Nat.le_refl _) (b := wr.heap.size) rc
        rw [hXb]
        exact ⟨RK.out.under bb RK.out.lt, (Rw.new wr _ 27).set rc, BK.out.trans (bb.mono BK.out.size)⟩
      clear hXb RK BK HRG
      rintro v1 ⟨h1, h2, h3⟩
      have R1 := Lib.hid h1
      have B1 := Lib.hid h3
      have q0 : v1.cell? ⟨Xb, 0, none⟩ = some (.int .i64 kd) := by rw [h2.cell 0, HRC.out, HKD.out]; rfl
      clear h1 h2 h3
      by_cases h11 : kd = 11
      case pos =>
        have f1 : (kd == 11) = true := by simpa using h11
        clear h11
        go_wp2
        go_ret
        exact ⟨rfl, B1.out⟩
      have f1 : (kd == 11) = false := by simpa using h11
      have HNK := Lib.hid h11
      clear h11
      go_wp2
      go_roundg (n - (k + 1))
      case measure => have := HG.out; omega
      case rel => exact ⟨k + 1, Lib.hid rfl, by omega, by simp, Lib.hid (fun j h1 h2 => by
          rcases Nat.lt_or_ge j k with h3 | h3
          · exact HP.out j h1 h3
          · obtain rfl : j = k := by omega
            exact fun e => HNK.out (HKE.out.trans e)), R1, B1⟩
    have HNS : Hid (∀ r ∈ rs, r.kind ≠ 11) := Lib.hid (fun r hr => by
      obtain ⟨j, hj, e⟩ := List.mem_iff_getElem.1 hr
      rw [← e]
      exact HP.out j hj (by rw [← HNL.out] at hj; omega))
    have HPT := Lib.hid (parts_of HRB.out.symm HNS.out a HAN.out)
    have hle : rs.length ≤ 200 := by rw [← HNL.out]; exact HBG.out
    obtain ⟨x, hx⟩ : ∃ x, x = allS s rs := ⟨_, rfl⟩
    obtain ⟨f, hf⟩ : ∃ x, x = allS s (rs.take a) := ⟨_, rfl⟩
    obtain ⟨y, hy⟩ : ∃ x, x = allS f.1 (rs.drop a) := ⟨_, rfl⟩
    have HX := Lib.hid hx
    have HFF := Lib.hid hf
    have HY := Lib.hid hy
    have HFX : Hid (FitsS x.1) := Lib.hid (by rw [hx]; exact fits_all s rs HFS.out (fun r hr => (HF.out r hr).st))
    have HFf : Hid (FitsS f.1) := Lib.hid (by rw [hf]; exact fits_all s _ HFS.out (fun r hr => (HF.out r (List.mem_of_mem_take hr)).st))
    have HFY : Hid (FitsS y.1) := Lib.hid (by rw [hy]; exact fits_all _ _ HFf.out (fun r hr => (HF.out r (List.mem_of_mem_drop hr)).st))
    obtain ⟨XN, hXN⟩ : ∃ i : Int, i = (x.2 : Int) := ⟨_, rfl⟩
    obtain ⟨FN, hFN⟩ : ∃ i : Int, i = (f.2 : Int) := ⟨_, rfl⟩
    obtain ⟨YN, hYN⟩ : ∃ i : Int, i = (y.2 : Int) := ⟨_, rfl⟩
    obtain ⟨AN, hAN⟩ : ∃ i : Int, i = ((y.2 + 1 : Nat) : Int) := ⟨_, rfl⟩
    obtain ⟨xc, hxc⟩ : ∃ c, c = stC x.1 := ⟨_, rfl⟩
    have HE_xc := Lib.hid hxc
    have HZ_xc : Hid (xc.size = 12) := Lib.hid (by rw [hxc]; rfl)
    have H1_xc : Hid (xc.all (·.oneCell') = true) := Lib.hid (by rw [hxc]; exact stC_one _)
    obtain ⟨fc, hfc⟩ : ∃ c, c = stC f.1 := ⟨_, rfl⟩
    have HE_fc := Lib.hid hfc
    have HZ_fc : Hid (fc.size = 12) := Lib.hid (by rw [hfc]; rfl)
    have H1_fc : Hid (fc.all (·.oneCell') = true) := Lib.hid (by rw [hfc]; exact stC_one _)
    obtain ⟨yc, hyc⟩ : ∃ c, c = stC y.1 := ⟨_, rfl⟩
    have HE_yc := Lib.hid hyc
    have HZ_yc : Hid (yc.size = 12) := Lib.hid (by rw [hyc]; rfl)
    have H1_yc : Hid (yc.all (·.oneCell') = true) := Lib.hid (by rw [hyc]; exact stC_one _)
    obtain ⟨zc, hzc⟩ : ∃ c, c = stC zeroS := ⟨_, rfl⟩
    have HE_zc := Lib.hid hzc
    have HZ_zc : Hid (zc.size = 12) := Lib.hid (by rw [hzc]; rfl)
    have H1_zc : Hid (zc.all (·.oneCell') = true) := Lib.hid (by rw [hzc]; exact stC_one _)
    obtain ⟨dc, hdc⟩ : ∃ c, c = recC ⟨11, 0, 0, 0, 0, 0, false, f.1⟩ := ⟨_, rfl⟩
    have HE_dc := Lib.hid hdc
    have HZ_dc : Hid (dc.size = 19) := Lib.hid (by rw [hdc]; rfl)
    have H1_dc : Hid (dc.all (·.oneCell') = true) := Lib.hid (by rw [hdc]; exact recC_one _)
    have hlt1 : (rs.take a).length ≤ 200 := by rw [List.length_take]; omega
    have hld : (rs.drop a).length ≤ 200 := by rw [List.length_drop]; omega
    have C9 : Hid (∀ W v2, Recs W v2 ([] ++ rs) → Calls Try.prog 16 #[.agg cs, v2] W fun e w' => e = .returned (.tuple #[.agg xc, .int .i64 XN]) ∧ Below W.heap.size W w') := Lib.hid (fun W v2 h => by
      have h1 := all_any s ([] ++ rs) v2 W h (by simp; omega) (fun r hr => (HF.out r (by simpa using hr)).kind)
      simp only [List.nil_append] at h1
      rw [← hx] at h1
      unfold AllR stV at h1
      rw [← hxc, ← hXN, ← HE_cs.out] at h1
      exact h1)
    have C10 : Hid (∀ W v2, Recs W v2 ([] ++ rs.take a) → Calls Try.prog 16 #[.agg cs, v2] W fun e w' => e = .returned (.tuple #[.agg fc, .int .i64 FN]) ∧ Below W.heap.size W w') := Lib.hid (fun W v2 h => by
      have h1 := all_any s ([] ++ rs.take a) v2 W h (by simp; omega) (fun r hr => (HF.out r (List.mem_of_mem_take (by simpa using hr))).kind)
      simp only [List.nil_append] at h1
      rw [← hf] at h1
      unfold AllR stV at h1
      rw [← hfc, ← hFN, ← HE_cs.out] at h1
      exact h1)
    have C13 : Hid (∀ W v2, Recs W v2 ([] ++ rs.drop a) → Calls Try.prog 16 #[.agg fc, v2] W fun e w' => e = .returned (.tuple #[.agg yc, .int .i64 YN]) ∧ Below W.heap.size W w') := Lib.hid (fun W v2 h => by
      have h1 := all_any f.1 ([] ++ rs.drop a) v2 W h (by simp; omega) (fun r hr => (HF.out r (List.mem_of_mem_drop (by simpa using hr))).kind)
      simp only [List.nil_append] at h1
      rw [← hy] at h1
      unfold AllR stV at h1
      rw [← hyc, ← hYN, ← hfc] at h1
      exact h1)
    have C14 : Hid ((runS s (rs.take a)).2 = a → ∀ W v2, Recs W v2 ([⟨11, 0, 0, 0, 0, 0, false, f.1⟩] ++ rs.drop a) → Calls Try.prog 16 #[.agg zc, v2] W fun e w' => e = .returned (.tuple #[.agg yc, .int .i64 AN]) ∧ Below W.heap.size W w') := Lib.hid (fun hq W v2 h => by
      have h1 := all_any zeroS ([⟨11, 0, 0, 0, 0, 0, false, f.1⟩] ++ rs.drop a) v2 W h (by simp; omega) (fun r hr => by
        rcases List.mem_append.1 hr with hr | hr
        · obtain rfl : r = ⟨11, 0, 0, 0, 0, 0, false, f.1⟩ := by simpa using hr
          unfold Fits
          simp
        · exact (HF.out r (List.mem_of_mem_drop hr)).kind)
      have e := (HPT.out.high hq).2
      rw [← hf, ← hy] at e
      rw [List.singleton_append, e] at h1
      unfold AllR stV addN at h1
      simp only at h1
      rw [← hyc, ← hAN, ← hzc] at h1
      exact h1)
    have HLW : Hid ((runS s (rs.take a)).2 < a → x = f) := Lib.hid (fun h => by rw [hx, hf]; exact HPT.out.low h)
    have HHG : Hid ((runS s (rs.take a)).2 = a → x = addN a y) := Lib.hid (fun h => by rw [hx, hy, hf]; exact (HPT.out.high h).1)
    have HF2 : Hid (f.2 = (runS s (rs.take a)).2) := Lib.hid (by rw [hf, HPT.out.same])
    have HFL : Hid (f.2 ≤ a) := Lib.hid (by rw [HF2.out]; exact HPT.out.le)
    have HYL : Hid (y.2 ≤ 200) := Lib.hid (by
      rw [hy, all_run (fun r hr => HNS.out r (List.mem_of_mem_drop hr))]
      exact Nat.le_trans (run_le _ _) hld)
    have HAL : Hid (a ≤ 200) := Lib.hid (by have := HAN.out; omega)
    have HXN := Lib.hid hXN
    have HFN := Lib.hid hFN
    have HYN := Lib.hid hYN
    have HANE := Lib.hid hAN
    have eqF : ∀ W, (Op.equalIn 10000 25 (.agg fc) (.agg fc)).run Try.prog W = .ok true W := fun W => by rw [hfc]; exact eq25 HFf.out W
    have eqY : ∀ W, (Op.equalIn 10000 25 (.agg yc) (.agg yc)).run Try.prog W = .ok true W := fun W => by rw [hyc]; exact eq25 HFY.out W
    have HN9 : Hid (([] : List Rc).length + rs.length ≤ 1000) := Lib.hid (by simp; omega)
    have HN10 : Hid (([] : List Rc).length + (rs.take a).length ≤ 1000) := Lib.hid (by simp only [List.length_nil]; omega)
    have HN13 : Hid (([] : List Rc).length + (rs.drop a).length ≤ 1000) := Lib.hid (by simp only [List.length_nil]; omega)
    have HN14 : Hid (([⟨11, 0, 0, 0, 0, 0, false, f.1⟩] : List Rc).length + (rs.drop a).length ≤ 1000) := Lib.hid (by simp only [List.length_singleton]; omega)
    obtain ⟨vt, et0, hvt⟩ := recs_to HV.out a HAN.out
    obtain ⟨vd, ed0, hvd⟩ := recs_from HV.out a HAN.out
    have et : ∀ W, (Instr.slice 33 (.slice Ad n cp) none (some (.int .i64 at_)) none).run Try.prog W = .ok vt W := fun W => by rw [HAA.out]; exact et0 W
    have ed : ∀ W, (Instr.slice 33 (.slice Ad n cp) (some (.int .i64 at_)) none none).run Try.prog W = .ok vd W := fun W => by rw [HAA.out]; exact ed0 W
    have HVT := Lib.hid hvt
    have HVD := Lib.hid hvd
    have bs0 := build0
    have bs1 : ∀ W, (Instr.buildSlice 33 1 #[(0, .agg dc)]).run Try.prog W = .ok (.slice (some ⟨W.heap.size, 0, none⟩) 1 1) (W.alloc (.cells dc 27)) := fun W => by rw [hdc]; exact build1 W _
    have HO1 : Hid (∀ (W : World), w.heap.size ≤ W.heap.size → (W.alloc (.cells dc 27)).ownsRow w.heap.size 27 19 (.slice (some ⟨W.heap.size, 0, none⟩) 1 1) ([⟨11, 0, 0, 0, 0, 0, false, f.1⟩] : List Rc).length (flat [⟨11, 0, 0, 0, 0, 0, false, f.1⟩])) := Lib.hid (fun W h => by rw [hdc]; exact own1 W _ h)
    clear et0 ed0 hvt hvd hx hf hy hXN hFN hYN hAN hxc hfc hyc hzc hdc hlt1 hld hle HP HPT
    go_upto_region 9 with (fail)
    clear hk hlt hn200
    refine name_w (fun W => Rw W w.heap.size cs 25 ∧ Below w.heap.size w W) ⟨RK.out, BK.out⟩ ?_
    clear RK BK
    rintro u3 ⟨h0, h1⟩
    have R_A_3 := Lib.hid h0
    have BT3 := Lib.hid h1
    clear h0 h1
    go_cut [9, 10] from 50 (fun sY sN W => ∃ Yb, sY = .pointer (some ⟨Yb, 0, none⟩) ∧ sN = .int .i64 XN ∧ Rw W w.heap.size cs 25 ∧ Rw W Yb xc 25 ∧ Below w.heap.size w W)
    case first =>
      have RA_u3 := R_A_3
      have BT_u3 := BT3
      refine wp_region_held_drew (S := fun W => Rw W w.heap.size cs 25 ∧ True) (by kernel_rfl) ⟨RA_u3.out, trivial⟩ (fun hHeld => ?_)
      refine wpAnyH_take (i := 0) (oi := { dst := some 51, op := Op.load 25 (Operand.tmp 3), type := 25, pos := "law.go:84", after := #[], guard := none }) (v := .agg cs) rfl (by kernel_rfl) (by kernel_rfl) (by kernel_rfl) (fun _ _ _ h => h) (Or.inl ⟨by rfl, fun W hS => exec_load_row 25 (.tmp 3) rfl w.heap.size rfl 25 cs (0, 0) _ hS.1 Try.underlying25 rfl (by rw [HZ_cs.out]; exact i12)⟩) hHeld ?_
      (try simp only [Act.put, List.setIfInBounds_toArray, List.set_cons_zero, List.set_cons_succ])
      refine wpAnyH_take (i := 2) (oi := { dst := some 53, op := Op.move (Operand.tmp 1), type := 33, pos := "law.go:84", after := #[], guard := none }) (v := ?_) rfl (by kernel_rfl) (by kernel_rfl) (by kernel_rfl) (fun _ _ _ h => h) (Or.inl ⟨by rfl, ?_⟩) hHeld ?_
      rotate_left
      · intro W hSw
        clear hSw
        first | (go_simp; done) | (go_simp; with_reducible rfl)
      (try simp only [Act.put, List.setIfInBounds_toArray, List.set_cons_zero, List.set_cons_succ])
      refine wpAnyH_ready (rs := [1, 8]) (by kernel_rfl) (by simp) ?_
      refine AllReadyH.cons (o := { dst := some 52, op := Op.buildSlice 33 0 #[], type := 33, pos := "law.go:84", after := #[], guard := none }) rfl (fun K hK => ?_) (AllReadyH.cons (o := { dst := some 9, op := Op.alloc 25, type := 0, pos := "law.go:84", after := #[], guard := none }) rfl (fun K hK => ?_) AllReadyH.nil)
      · go_simp
        refine hK.out _ _ ?_ (fun hHeld => ?_)
        · exact ⟨Rw.alloc RA_u3.out _, trivial⟩
        clear hK K hHeld
        (try simp only [Act.put, List.setIfInBounds_toArray, List.set_cons_zero, List.set_cons_succ])
        (try rw [show u3.drew.heap.size = u3.heap.size from rfl])
        obtain ⟨Eb, hEb⟩ : ∃ X, X = u3.heap.size := ⟨_, rfl⟩
        rw [← hEb]
        have HEB : Hid (w.heap.size ≤ Eb ∧ w.heap.size < Eb) := Lib.hid (by rw [hEb]; exact ⟨BT_u3.out.size, RA_u3.out.lt⟩)
        refine name_h (fun W => Rw W w.heap.size cs 25 ∧ W.ownsRow w.heap.size 27 19 (.slice (some ⟨Eb, 0, none⟩) 0 0) ([] : List Rc).length (flat ([] : List Rc)) ∧ Below w.heap.size w W ∧ Eb < W.heap.size) ⟨Rw.alloc RA_u3.out _, by rw [hEb]; exact own0 _ (hb := BT_u3.out.size), Below.alloc (below_drew BT_u3.out) BT_u3.out.size _, by rw [hEb]; simp⟩ ?_
        clear hEb
        clear RA_u3 BT_u3
        rintro u101 ⟨h0, h1, h2, h3⟩
        have HEL := Lib.hid h3
        clear h3
        have RA_u101 := Lib.hid h0
        have HO_u101 := Lib.hid h1
        have BT_u101 := Lib.hid h2
        have hHeld : Rw u101 w.heap.size cs 25 ∧ True := ⟨RA_u101.out, trivial⟩
        clear h0 h1 h2
        refine wpAnyH_ready (rs := [3, 8]) (by kernel_rfl) (by simp) ?_
        refine AllReadyH.cons (o := { dst := some 54, op := Op.call { callee := Callee.builtin Builtin.append, args := #[Operand.tmp 52, Operand.tmp 53], argTypes := #[33, 33] }, type := 33, pos := "law.go:84", after := #[{ on := 1, ground := Ground.data }, { on := 2, ground := Ground.data }], guard := none }) rfl (fun K hK => ?_) (AllReadyH.cons (o := { dst := some 9, op := Op.alloc 25, type := 0, pos := "law.go:84", after := #[], guard := none }) rfl (fun K hK => ?_) AllReadyH.nil)
        · obtain ⟨v2, u102, ea, hr2, hg2⟩ := append_recs HO_u101.out (HV.out.under BT_u101.out (Nat.le_refl _)) BT_u101.out.size HN9.out
          rw [if_pos (by rfl)]
          refine wp_append_is (.tmp 52) (.tmp 53) 33 rfl rfl rfl ea ?_
          clear ea
          have kp : ∀ k, k < u101.heap.size → k ≠ Eb → u102.heap[k]? = u101.heap[k]? := fun k h1 h2 => hg2.block k h1 (by intro e; injection e with e; exact h2 e)
          have RA_u102 : Hid (Rw u102 w.heap.size cs 25) := Lib.hid ((kp _ RA_u101.out.lt (Nat.ne_of_lt HEB.out.2)).trans RA_u101.out)
          have HO_u102 := Lib.hid hr2
          have BT_u102 : Hid (Below w.heap.size w u102) := Lib.hid (below_grown' BT_u101.out hg2 HEB.out.1 (Nat.le_refl _))
          clear hHeld kp hr2 hg2
          refine hK.out _ _ ?_ (fun hHeld => ?_)
          · exact ⟨RA_u102.out, trivial⟩
          clear hK K
          (try simp only [Act.put, List.setIfInBounds_toArray, List.set_cons_zero, List.set_cons_succ])
          clear RA_u101 HO_u101 BT_u101
          clear HEL
          clear HEB 
          refine wpAnyH_ready (rs := [4, 8]) (by kernel_rfl) (by simp) ?_
          refine AllReadyH.cons (o := { dst := some 55, op := Op.call { callee := Callee.value (Operand.func 16), args := #[Operand.tmp 51, Operand.tmp 54], argTypes := #[25, 33] }, type := 34, pos := "law.go:84", after := #[{ on := 0, ground := Ground.data }, { on := 3, ground := Ground.data }, { on := 3, ground := Ground.chain }], guard := none }) rfl (fun K hK => ?_) (AllReadyH.cons (o := { dst := some 9, op := Op.alloc 25, type := 0, pos := "law.go:84", after := #[], guard := none }) rfl (fun K hK => ?_) AllReadyH.nil)
          · go_simp
            refine (C9.out _ _ HO_u102.out).mono ?_
            rintro e u103 ⟨rfl, hb⟩
            have RA_u103 := Lib.hid (RA_u102.out.under hb RA_u102.out.lt)
            have BT_u103 := Lib.hid (BT_u102.out.trans (hb.mono BT_u102.out.size))
            clear hb hHeld
            refine hK.out _ _ ?_ (fun hHeld => ?_)
            · exact ⟨RA_u103.out, trivial⟩
            clear hK K
            (try simp only [Act.put, List.setIfInBounds_toArray, List.set_cons_zero, List.set_cons_succ])
            clear RA_u102 HO_u102 BT_u102
            refine wpAnyH_take (i := 5) (oi := { dst := some 50, op := Op.move (Operand.tmp 55), type := 34, pos := "law.go:84", after := #[{ on := 4, ground := Ground.data }], guard := none }) (v := ?_) rfl (by kernel_rfl) (by kernel_rfl) (by kernel_rfl) (fun _ _ _ h => h) (Or.inl ⟨by rfl, ?_⟩) hHeld ?_
            rotate_left
            · intro W hSw
              clear hSw
              first | (go_simp; done) | (go_simp; with_reducible rfl)
            (try simp only [Act.put, List.setIfInBounds_toArray, List.set_cons_zero, List.set_cons_succ])
            refine wpAnyH_take (i := 6) (oi := { dst := some 56, op := Op.extract (Operand.tmp 50) 0, type := 25, pos := "law.go:84", after := #[{ on := 5, ground := Ground.data }], guard := none }) (v := ?_) rfl (by kernel_rfl) (by kernel_rfl) (by kernel_rfl) (fun _ _ _ h => h) (Or.inl ⟨by rfl, ?_⟩) hHeld ?_
            rotate_left
            · intro W hSw
              clear hSw
              first | (go_simp; done) | (go_simp; with_reducible rfl)
            (try simp only [Act.put, List.setIfInBounds_toArray, List.set_cons_zero, List.set_cons_succ])
            refine wpAnyH_take (i := 7) (oi := { dst := some 57, op := Op.extract (Operand.tmp 50) 1, type := 3, pos := "law.go:84", after := #[{ on := 5, ground := Ground.data }, { on := 9, ground := Ground.gcOnly Departure.lateStores }], guard := none }) (v := ?_) rfl (by kernel_rfl) (by kernel_rfl) (by kernel_rfl) (fun _ _ _ h => h) (Or.inl ⟨by rfl, ?_⟩) hHeld ?_
            rotate_left
            · intro W hSw
              clear hSw
              first | (go_simp; done) | (go_simp; with_reducible rfl)
            (try simp only [Act.put, List.setIfInBounds_toArray, List.set_cons_zero, List.set_cons_succ])
            refine wpAnyH_ready (rs := [8]) (by kernel_rfl) (by simp) ?_
            refine AllReadyH.cons (o := { dst := some 9, op := Op.alloc 25, type := 0, pos := "law.go:84", after := #[], guard := none }) rfl (fun K hK => ?_) AllReadyH.nil
            go_simp
            refine hK.out _ _ ?_ (fun hHeld => ?_)
            · exact ⟨Rw.alloc RA_u103.out _, trivial⟩
            clear hK K hHeld
            (try simp only [Act.put, List.setIfInBounds_toArray, List.set_cons_zero, List.set_cons_succ])
            obtain ⟨Yb, hYb⟩ : ∃ X, X = u103.heap.size := ⟨_, rfl⟩
            rw [← hYb]
            have HYB : Hid (w.heap.size ≤ Yb ∧ w.heap.size < Yb) := Lib.hid (by rw [hYb]; exact ⟨BT_u103.out.size, RA_u103.out.lt⟩)
            refine name_h (fun W => Rw W w.heap.size cs 25 ∧ Rw W Yb zeroSC 25 ∧ Below w.heap.size w W) ⟨Rw.alloc RA_u103.out _, by rw [hYb]; exact Rw.new _ _ _, Below.alloc BT_u103.out BT_u103.out.size _⟩ ?_
            clear hYb 
            clear RA_u103 BT_u103
            rintro u104 ⟨h0, h1, h2⟩
            have RA_u104 := Lib.hid h0
            have RY_u104 := Lib.hid h1
            have BT_u104 := Lib.hid h2
            have hHeld : Rw u104 w.heap.size cs 25 ∧ True := ⟨RA_u104.out, trivial⟩
            clear h0 h1 h2
            refine wpAnyH_ready (rs := [9]) (by kernel_rfl) (by simp) ?_
            refine AllReadyH.cons (o := { dst := none, op := Op.store 25 (Operand.tmp 9) (Operand.tmp 56), type := 0, pos := "law.go:84", after := #[{ on := 8, ground := Ground.data }, { on := 6, ground := Ground.data }, { on := 4, ground := Ground.chain }, { on := 0, ground := Ground.phase }, { on := 1, ground := Ground.phase }, { on := 2, ground := Ground.phase }, { on := 3, ground := Ground.phase }, { on := 4, ground := Ground.phase }, { on := 5, ground := Ground.phase }, { on := 6, ground := Ground.phase }, { on := 7, ground := Ground.textOnly Departure.lateStores }, { on := 8, ground := Ground.phase }], guard := none }) rfl (fun K hK => ?_) AllReadyH.nil
            rw [if_pos (by rfl)]
            refine wp_store_row 25 (.tmp 9) (.tmp 56) rfl Yb xc rfl rfl 25 _ RY_u104.out (by rw [HZ_xc.out]; exact i12) (by rw [HZ_xc.out]; rfl) H1_xc.out ?_
            clear hHeld
            have RA_f : Hid (Rw (u104.setRow Yb xc) w.heap.size cs 25) := Lib.hid ((setRow_block _ _ _ _ (Nat.ne_of_lt HYB.out.2)).trans RA_u104.out)
            have RY_f : Hid (Rw (u104.setRow Yb xc) Yb xc 25) := Lib.hid (RY_u104.out.set xc)
            have BT_f : Hid (Below w.heap.size w (u104.setRow Yb xc)) := Lib.hid (below_setRow BT_u104.out HYB.out.1 xc)
            refine hK.out _ _ ?_ (fun hHeld => ?_)
            · exact ⟨RA_f.out, trivial⟩
            clear hK K
            (try simp only [Act.put])
            refine wpAnyH_take (i := 10) (oi := { dst := some 10, op := Op.assign (Operand.tmp 57), type := 3, pos := "law.go:84", after := #[{ on := 7, ground := Ground.data }, { on := 9, ground := Ground.chain }, { on := 0, ground := Ground.phase }, { on := 1, ground := Ground.phase }, { on := 2, ground := Ground.phase }, { on := 3, ground := Ground.phase }, { on := 4, ground := Ground.phase }, { on := 5, ground := Ground.phase }, { on := 6, ground := Ground.phase }, { on := 7, ground := Ground.phase }, { on := 8, ground := Ground.phase }, { on := 9, ground := Ground.phase }], guard := none }) (v := ?_) rfl (by kernel_rfl) (by kernel_rfl) (by kernel_rfl) (fun _ _ _ h => h) (Or.inl ⟨by rfl, ?_⟩) hHeld ?_
            rotate_left
            · intro W hSw
              clear hSw
              first | (go_simp; done) | (go_simp; with_reducible rfl)
            (try simp only [Act.put, List.setIfInBounds_toArray, List.set_cons_zero, List.set_cons_succ])
            refine wpAnyH_done (by kernel_rfl) ?_ _
            go_wp2
            go_meet
            case rel => exact ⟨Yb, rfl, rfl, RA_f.out, RY_f.out, BT_f.out⟩
          · go_simp
            refine hK.out _ _ ?_ (fun hHeld => ?_)
            · exact ⟨Rw.alloc RA_u102.out _, trivial⟩
            clear hK K hHeld
            (try simp only [Act.put, List.setIfInBounds_toArray, List.set_cons_zero, List.set_cons_succ])
            obtain ⟨Yb, hYb⟩ : ∃ X, X = u102.heap.size := ⟨_, rfl⟩
            rw [← hYb]
            have HYB : Hid (w.heap.size ≤ Yb ∧ w.heap.size < Yb) := Lib.hid (by rw [hYb]; exact ⟨BT_u102.out.size, RA_u102.out.lt⟩)
            refine name_h (fun W => Rw W w.heap.size cs 25 ∧ Rw W Yb zeroSC 25 ∧ Recs W v2 (([] : List Rc) ++ rs) ∧ Below w.heap.size w W) ⟨Rw.alloc RA_u102.out _, by rw [hYb]; exact Rw.new _ _ _, HO_u102.out.under ((Below.refl _ _).alloc (Nat.le_refl _) _) (Nat.le_refl _), Below.alloc BT_u102.out BT_u102.out.size _⟩ ?_
            clear hYb 
            clear RA_u102 HO_u102 BT_u102
            rintro u105 ⟨h0, h1, h2, h3⟩
            have RA_u105 := Lib.hid h0
            have RY_u105 := Lib.hid h1
            have HO_u105 := Lib.hid h2
            have BT_u105 := Lib.hid h3
            have hHeld : Rw u105 w.heap.size cs 25 ∧ True := ⟨RA_u105.out, trivial⟩
            clear h0 h1 h2 h3
            refine wpAnyH_ready (rs := [4]) (by kernel_rfl) (by simp) ?_
            refine AllReadyH.cons (o := { dst := some 55, op := Op.call { callee := Callee.value (Operand.func 16), args := #[Operand.tmp 51, Operand.tmp 54], argTypes := #[25, 33] }, type := 34, pos := "law.go:84", after := #[{ on := 0, ground := Ground.data }, { on := 3, ground := Ground.data }, { on := 3, ground := Ground.chain }], guard := none }) rfl (fun K hK => ?_) AllReadyH.nil
            go_simp
            refine (C9.out _ _ HO_u105.out).mono ?_
            rintro e u106 ⟨rfl, hb⟩
            have RA_u106 := Lib.hid (RA_u105.out.under hb RA_u105.out.lt)
            have RY_u106 := Lib.hid (RY_u105.out.under hb RY_u105.out.lt)
            have BT_u106 := Lib.hid (BT_u105.out.trans (hb.mono BT_u105.out.size))
            clear hb hHeld
            refine hK.out _ _ ?_ (fun hHeld => ?_)
            · exact ⟨RA_u106.out, trivial⟩
            clear hK K
            (try simp only [Act.put, List.setIfInBounds_toArray, List.set_cons_zero, List.set_cons_succ])
            clear RA_u105 RY_u105 HO_u105 BT_u105
            refine wpAnyH_take (i := 5) (oi := { dst := some 50, op := Op.move (Operand.tmp 55), type := 34, pos := "law.go:84", after := #[{ on := 4, ground := Ground.data }], guard := none }) (v := ?_) rfl (by kernel_rfl) (by kernel_rfl) (by kernel_rfl) (fun _ _ _ h => h) (Or.inl ⟨by rfl, ?_⟩) hHeld ?_
            rotate_left
            · intro W hSw
              clear hSw
              first | (go_simp; done) | (go_simp; with_reducible rfl)
            (try simp only [Act.put, List.setIfInBounds_toArray, List.set_cons_zero, List.set_cons_succ])
            refine wpAnyH_take (i := 6) (oi := { dst := some 56, op := Op.extract (Operand.tmp 50) 0, type := 25, pos := "law.go:84", after := #[{ on := 5, ground := Ground.data }], guard := none }) (v := ?_) rfl (by kernel_rfl) (by kernel_rfl) (by kernel_rfl) (fun _ _ _ h => h) (Or.inl ⟨by rfl, ?_⟩) hHeld ?_
            rotate_left
            · intro W hSw
              clear hSw
              first | (go_simp; done) | (go_simp; with_reducible rfl)
            (try simp only [Act.put, List.setIfInBounds_toArray, List.set_cons_zero, List.set_cons_succ])
            refine wpAnyH_take (i := 7) (oi := { dst := some 57, op := Op.extract (Operand.tmp 50) 1, type := 3, pos := "law.go:84", after := #[{ on := 5, ground := Ground.data }, { on := 9, ground := Ground.gcOnly Departure.lateStores }], guard := none }) (v := ?_) rfl (by kernel_rfl) (by kernel_rfl) (by kernel_rfl) (fun _ _ _ h => h) (Or.inl ⟨by rfl, ?_⟩) hHeld ?_
            rotate_left
            · intro W hSw
              clear hSw
              first | (go_simp; done) | (go_simp; with_reducible rfl)
            (try simp only [Act.put, List.setIfInBounds_toArray, List.set_cons_zero, List.set_cons_succ])
            refine wpAnyH_ready (rs := [9]) (by kernel_rfl) (by simp) ?_
            refine AllReadyH.cons (o := { dst := none, op := Op.store 25 (Operand.tmp 9) (Operand.tmp 56), type := 0, pos := "law.go:84", after := #[{ on := 8, ground := Ground.data }, { on := 6, ground := Ground.data }, { on := 4, ground := Ground.chain }, { on := 0, ground := Ground.phase }, { on := 1, ground := Ground.phase }, { on := 2, ground := Ground.phase }, { on := 3, ground := Ground.phase }, { on := 4, ground := Ground.phase }, { on := 5, ground := Ground.phase }, { on := 6, ground := Ground.phase }, { on := 7, ground := Ground.textOnly Departure.lateStores }, { on := 8, ground := Ground.phase }], guard := none }) rfl (fun K hK => ?_) AllReadyH.nil
            rw [if_pos (by rfl)]
            refine wp_store_row 25 (.tmp 9) (.tmp 56) rfl Yb xc rfl rfl 25 _ RY_u106.out (by rw [HZ_xc.out]; exact i12) (by rw [HZ_xc.out]; rfl) H1_xc.out ?_
            clear hHeld
            have RA_f : Hid (Rw (u106.setRow Yb xc) w.heap.size cs 25) := Lib.hid ((setRow_block _ _ _ _ (Nat.ne_of_lt HYB.out.2)).trans RA_u106.out)
            have RY_f : Hid (Rw (u106.setRow Yb xc) Yb xc 25) := Lib.hid (RY_u106.out.set xc)
            have BT_f : Hid (Below w.heap.size w (u106.setRow Yb xc)) := Lib.hid (below_setRow BT_u106.out HYB.out.1 xc)
            refine hK.out _ _ ?_ (fun hHeld => ?_)
            · exact ⟨RA_f.out, trivial⟩
            clear hK K
            (try simp only [Act.put])
            refine wpAnyH_take (i := 10) (oi := { dst := some 10, op := Op.assign (Operand.tmp 57), type := 3, pos := "law.go:84", after := #[{ on := 7, ground := Ground.data }, { on := 9, ground := Ground.chain }, { on := 0, ground := Ground.phase }, { on := 1, ground := Ground.phase }, { on := 2, ground := Ground.phase }, { on := 3, ground := Ground.phase }, { on := 4, ground := Ground.phase }, { on := 5, ground := Ground.phase }, { on := 6, ground := Ground.phase }, { on := 7, ground := Ground.phase }, { on := 8, ground := Ground.phase }, { on := 9, ground := Ground.phase }], guard := none }) (v := ?_) rfl (by kernel_rfl) (by kernel_rfl) (by kernel_rfl) (fun _ _ _ h => h) (Or.inl ⟨by rfl, ?_⟩) hHeld ?_
            rotate_left
            · intro W hSw
              clear hSw
              first | (go_simp; done) | (go_simp; with_reducible rfl)
            (try simp only [Act.put, List.setIfInBounds_toArray, List.set_cons_zero, List.set_cons_succ])
            refine wpAnyH_done (by kernel_rfl) ?_ _
            go_wp2
            go_meet
            case rel => exact ⟨Yb, rfl, rfl, RA_f.out, RY_f.out, BT_f.out⟩
        · go_simp
          refine hK.out _ _ ?_ (fun hHeld => ?_)
          · exact ⟨Rw.alloc RA_u101.out _, trivial⟩
          clear hK K hHeld
          (try simp only [Act.put, List.setIfInBounds_toArray, List.set_cons_zero, List.set_cons_succ])
          obtain ⟨Yb, hYb⟩ : ∃ X, X = u101.heap.size := ⟨_, rfl⟩
          rw [← hYb]
          have HYB : Hid (w.heap.size ≤ Yb ∧ w.heap.size < Yb) := Lib.hid (by rw [hYb]; exact ⟨BT_u101.out.size, RA_u101.out.lt⟩)
          have HYE : Hid (Yb ≠ Eb) := Lib.hid (by rw [hYb]; exact Nat.ne_of_gt HEL.out)
          refine name_h (fun W => Rw W w.heap.size cs 25 ∧ Rw W Yb zeroSC 25 ∧ W.ownsRow w.heap.size 27 19 (.slice (some ⟨Eb, 0, none⟩) 0 0) ([] : List Rc).length (flat ([] : List Rc)) ∧ Below w.heap.size w W) ⟨Rw.alloc RA_u101.out _, by rw [hYb]; exact Rw.new _ _ _, World.ownsRow.alloc HO_u101.out _, Below.alloc BT_u101.out BT_u101.out.size _⟩ ?_
          clear hYb HEL
          clear RA_u101 HO_u101 BT_u101
          rintro u107 ⟨h0, h1, h2, h3⟩
          have RA_u107 := Lib.hid h0
          have RY_u107 := Lib.hid h1
          have HO_u107 := Lib.hid h2
          have BT_u107 := Lib.hid h3
          have hHeld : Rw u107 w.heap.size cs 25 ∧ True := ⟨RA_u107.out, trivial⟩
          clear h0 h1 h2 h3
          refine wpAnyH_ready (rs := [3]) (by kernel_rfl) (by simp) ?_
          refine AllReadyH.cons (o := { dst := some 54, op := Op.call { callee := Callee.builtin Builtin.append, args := #[Operand.tmp 52, Operand.tmp 53], argTypes := #[33, 33] }, type := 33, pos := "law.go:84", after := #[{ on := 1, ground := Ground.data }, { on := 2, ground := Ground.data }], guard := none }) rfl (fun K hK => ?_) AllReadyH.nil
          obtain ⟨v2, u108, ea, hr2, hg2⟩ := append_recs HO_u107.out (HV.out.under BT_u107.out (Nat.le_refl _)) BT_u107.out.size HN9.out
          rw [if_pos (by rfl)]
          refine wp_append_is (.tmp 52) (.tmp 53) 33 rfl rfl rfl ea ?_
          clear ea
          have kp : ∀ k, k < u107.heap.size → k ≠ Eb → u108.heap[k]? = u107.heap[k]? := fun k h1 h2 => hg2.block k h1 (by intro e; injection e with e; exact h2 e)
          have RA_u108 : Hid (Rw u108 w.heap.size cs 25) := Lib.hid ((kp _ RA_u107.out.lt (Nat.ne_of_lt HEB.out.2)).trans RA_u107.out)
          have RY_u108 : Hid (Rw u108 Yb zeroSC 25) := Lib.hid ((kp _ RY_u107.out.lt HYE.out).trans RY_u107.out)
          have HO_u108 := Lib.hid hr2
          have BT_u108 : Hid (Below w.heap.size w u108) := Lib.hid (below_grown' BT_u107.out hg2 HEB.out.1 (Nat.le_refl _))
          clear hHeld kp hr2 hg2
          refine hK.out _ _ ?_ (fun hHeld => ?_)
          · exact ⟨RA_u108.out, trivial⟩
          clear hK K
          (try simp only [Act.put, List.setIfInBounds_toArray, List.set_cons_zero, List.set_cons_succ])
          clear RA_u107 RY_u107 HO_u107 BT_u107
          clear HEB HYE
          refine wpAnyH_ready (rs := [4]) (by kernel_rfl) (by simp) ?_
          refine AllReadyH.cons (o := { dst := some 55, op := Op.call { callee := Callee.value (Operand.func 16), args := #[Operand.tmp 51, Operand.tmp 54], argTypes := #[25, 33] }, type := 34, pos := "law.go:84", after := #[{ on := 0, ground := Ground.data }, { on := 3, ground := Ground.data }, { on := 3, ground := Ground.chain }], guard := none }) rfl (fun K hK => ?_) AllReadyH.nil
          go_simp
          refine (C9.out _ _ HO_u108.out).mono ?_
          rintro e u109 ⟨rfl, hb⟩
          have RA_u109 := Lib.hid (RA_u108.out.under hb RA_u108.out.lt)
          have RY_u109 := Lib.hid (RY_u108.out.under hb RY_u108.out.lt)
          have BT_u109 := Lib.hid (BT_u108.out.trans (hb.mono BT_u108.out.size))
          clear hb hHeld
          refine hK.out _ _ ?_ (fun hHeld => ?_)
          · exact ⟨RA_u109.out, trivial⟩
          clear hK K
          (try simp only [Act.put, List.setIfInBounds_toArray, List.set_cons_zero, List.set_cons_succ])
          clear RA_u108 RY_u108 HO_u108 BT_u108
          refine wpAnyH_take (i := 5) (oi := { dst := some 50, op := Op.move (Operand.tmp 55), type := 34, pos := "law.go:84", after := #[{ on := 4, ground := Ground.data }], guard := none }) (v := ?_) rfl (by kernel_rfl) (by kernel_rfl) (by kernel_rfl) (fun _ _ _ h => h) (Or.inl ⟨by rfl, ?_⟩) hHeld ?_
          rotate_left
          · intro W hSw
            clear hSw
            first | (go_simp; done) | (go_simp; with_reducible rfl)
          (try simp only [Act.put, List.setIfInBounds_toArray, List.set_cons_zero, List.set_cons_succ])
          refine wpAnyH_take (i := 6) (oi := { dst := some 56, op := Op.extract (Operand.tmp 50) 0, type := 25, pos := "law.go:84", after := #[{ on := 5, ground := Ground.data }], guard := none }) (v := ?_) rfl (by kernel_rfl) (by kernel_rfl) (by kernel_rfl) (fun _ _ _ h => h) (Or.inl ⟨by rfl, ?_⟩) hHeld ?_
          rotate_left
          · intro W hSw
            clear hSw
            first | (go_simp; done) | (go_simp; with_reducible rfl)
          (try simp only [Act.put, List.setIfInBounds_toArray, List.set_cons_zero, List.set_cons_succ])
          refine wpAnyH_take (i := 7) (oi := { dst := some 57, op := Op.extract (Operand.tmp 50) 1, type := 3, pos := "law.go:84", after := #[{ on := 5, ground := Ground.data }, { on := 9, ground := Ground.gcOnly Departure.lateStores }], guard := none }) (v := ?_) rfl (by kernel_rfl) (by kernel_rfl) (by kernel_rfl) (fun _ _ _ h => h) (Or.inl ⟨by rfl, ?_⟩) hHeld ?_
          rotate_left
          · intro W hSw
            clear hSw
            first | (go_simp; done) | (go_simp; with_reducible rfl)
          (try simp only [Act.put, List.setIfInBounds_toArray, List.set_cons_zero, List.set_cons_succ])
          refine wpAnyH_ready (rs := [9]) (by kernel_rfl) (by simp) ?_
          refine AllReadyH.cons (o := { dst := none, op := Op.store 25 (Operand.tmp 9) (Operand.tmp 56), type := 0, pos := "law.go:84", after := #[{ on := 8, ground := Ground.data }, { on := 6, ground := Ground.data }, { on := 4, ground := Ground.chain }, { on := 0, ground := Ground.phase }, { on := 1, ground := Ground.phase }, { on := 2, ground := Ground.phase }, { on := 3, ground := Ground.phase }, { on := 4, ground := Ground.phase }, { on := 5, ground := Ground.phase }, { on := 6, ground := Ground.phase }, { on := 7, ground := Ground.textOnly Departure.lateStores }, { on := 8, ground := Ground.phase }], guard := none }) rfl (fun K hK => ?_) AllReadyH.nil
          rw [if_pos (by rfl)]
          refine wp_store_row 25 (.tmp 9) (.tmp 56) rfl Yb xc rfl rfl 25 _ RY_u109.out (by rw [HZ_xc.out]; exact i12) (by rw [HZ_xc.out]; rfl) H1_xc.out ?_
          clear hHeld
          have RA_f : Hid (Rw (u109.setRow Yb xc) w.heap.size cs 25) := Lib.hid ((setRow_block _ _ _ _ (Nat.ne_of_lt HYB.out.2)).trans RA_u109.out)
          have RY_f : Hid (Rw (u109.setRow Yb xc) Yb xc 25) := Lib.hid (RY_u109.out.set xc)
          have BT_f : Hid (Below w.heap.size w (u109.setRow Yb xc)) := Lib.hid (below_setRow BT_u109.out HYB.out.1 xc)
          refine hK.out _ _ ?_ (fun hHeld => ?_)
          · exact ⟨RA_f.out, trivial⟩
          clear hK K
          (try simp only [Act.put])
          refine wpAnyH_take (i := 10) (oi := { dst := some 10, op := Op.assign (Operand.tmp 57), type := 3, pos := "law.go:84", after := #[{ on := 7, ground := Ground.data }, { on := 9, ground := Ground.chain }, { on := 0, ground := Ground.phase }, { on := 1, ground := Ground.phase }, { on := 2, ground := Ground.phase }, { on := 3, ground := Ground.phase }, { on := 4, ground := Ground.phase }, { on := 5, ground := Ground.phase }, { on := 6, ground := Ground.phase }, { on := 7, ground := Ground.phase }, { on := 8, ground := Ground.phase }, { on := 9, ground := Ground.phase }], guard := none }) (v := ?_) rfl (by kernel_rfl) (by kernel_rfl) (by kernel_rfl) (fun _ _ _ h => h) (Or.inl ⟨by rfl, ?_⟩) hHeld ?_
          rotate_left
          · intro W hSw
            clear hSw
            first | (go_simp; done) | (go_simp; with_reducible rfl)
          (try simp only [Act.put, List.setIfInBounds_toArray, List.set_cons_zero, List.set_cons_succ])
          refine wpAnyH_done (by kernel_rfl) ?_ _
          go_wp2
          go_meet
          case rel => exact ⟨Yb, rfl, rfl, RA_f.out, RY_f.out, BT_f.out⟩
      · go_simp
        refine hK.out _ _ ?_ (fun hHeld => ?_)
        · exact ⟨Rw.alloc RA_u3.out _, trivial⟩
        clear hK K hHeld
        (try simp only [Act.put, List.setIfInBounds_toArray, List.set_cons_zero, List.set_cons_succ])
        obtain ⟨Yb, hYb⟩ : ∃ X, X = u3.heap.size := ⟨_, rfl⟩
        rw [← hYb]
        have HYB : Hid (w.heap.size ≤ Yb ∧ w.heap.size < Yb) := Lib.hid (by rw [hYb]; exact ⟨BT_u3.out.size, RA_u3.out.lt⟩)
        refine name_h (fun W => Rw W w.heap.size cs 25 ∧ Rw W Yb zeroSC 25 ∧ Below w.heap.size w W) ⟨Rw.alloc RA_u3.out _, by rw [hYb]; exact Rw.new _ _ _, Below.alloc (below_drew BT_u3.out) BT_u3.out.size _⟩ ?_
        clear hYb 
        clear RA_u3 BT_u3
        rintro u110 ⟨h0, h1, h2⟩
        have RA_u110 := Lib.hid h0
        have RY_u110 := Lib.hid h1
        have BT_u110 := Lib.hid h2
        have hHeld : Rw u110 w.heap.size cs 25 ∧ True := ⟨RA_u110.out, trivial⟩
        clear h0 h1 h2
        refine wpAnyH_ready (rs := [1]) (by kernel_rfl) (by simp) ?_
        refine AllReadyH.cons (o := { dst := some 52, op := Op.buildSlice 33 0 #[], type := 33, pos := "law.go:84", after := #[], guard := none }) rfl (fun K hK => ?_) AllReadyH.nil
        go_simp
        refine hK.out _ _ ?_ (fun hHeld => ?_)
        · exact ⟨Rw.alloc RA_u110.out _, trivial⟩
        clear hK K hHeld
        (try simp only [Act.put, List.setIfInBounds_toArray, List.set_cons_zero, List.set_cons_succ])
        (try skip)
        obtain ⟨Eb, hEb⟩ : ∃ X, X = u110.heap.size := ⟨_, rfl⟩
        rw [← hEb]
        have HEB : Hid (w.heap.size ≤ Eb ∧ w.heap.size < Eb) := Lib.hid (by rw [hEb]; exact ⟨BT_u110.out.size, RA_u110.out.lt⟩)
        have HYE : Hid (Yb ≠ Eb) := Lib.hid (by rw [hEb]; exact Nat.ne_of_lt RY_u110.out.lt)
        refine name_h (fun W => Rw W w.heap.size cs 25 ∧ Rw W Yb zeroSC 25 ∧ W.ownsRow w.heap.size 27 19 (.slice (some ⟨Eb, 0, none⟩) 0 0) ([] : List Rc).length (flat ([] : List Rc)) ∧ Below w.heap.size w W ∧ Eb < W.heap.size) ⟨Rw.alloc RA_u110.out _, Rw.alloc RY_u110.out _, by rw [hEb]; exact own0 _ (hb := BT_u110.out.size), Below.alloc BT_u110.out BT_u110.out.size _, by rw [hEb]; simp⟩ ?_
        clear hEb
        clear RA_u110 RY_u110 BT_u110
        rintro u111 ⟨h0, h1, h2, h3, h4⟩
        have HEL := Lib.hid h4
        clear h4
        have RA_u111 := Lib.hid h0
        have RY_u111 := Lib.hid h1
        have HO_u111 := Lib.hid h2
        have BT_u111 := Lib.hid h3
        have hHeld : Rw u111 w.heap.size cs 25 ∧ True := ⟨RA_u111.out, trivial⟩
        clear h0 h1 h2 h3
        clear HEL
        refine wpAnyH_ready (rs := [3]) (by kernel_rfl) (by simp) ?_
        refine AllReadyH.cons (o := { dst := some 54, op := Op.call { callee := Callee.builtin Builtin.append, args := #[Operand.tmp 52, Operand.tmp 53], argTypes := #[33, 33] }, type := 33, pos := "law.go:84", after := #[{ on := 1, ground := Ground.data }, { on := 2, ground := Ground.data }], guard := none }) rfl (fun K hK => ?_) AllReadyH.nil
        obtain ⟨v2, u112, ea, hr2, hg2⟩ := append_recs HO_u111.out (HV.out.under BT_u111.out (Nat.le_refl _)) BT_u111.out.size HN9.out
        rw [if_pos (by rfl)]
        refine wp_append_is (.tmp 52) (.tmp 53) 33 rfl rfl rfl ea ?_
        clear ea
        have kp : ∀ k, k < u111.heap.size → k ≠ Eb → u112.heap[k]? = u111.heap[k]? := fun k h1 h2 => hg2.block k h1 (by intro e; injection e with e; exact h2 e)
        have RA_u112 : Hid (Rw u112 w.heap.size cs 25) := Lib.hid ((kp _ RA_u111.out.lt (Nat.ne_of_lt HEB.out.2)).trans RA_u111.out)
        have RY_u112 : Hid (Rw u112 Yb zeroSC 25) := Lib.hid ((kp _ RY_u111.out.lt HYE.out).trans RY_u111.out)
        have HO_u112 := Lib.hid hr2
        have BT_u112 : Hid (Below w.heap.size w u112) := Lib.hid (below_grown' BT_u111.out hg2 HEB.out.1 (Nat.le_refl _))
        clear hHeld kp hr2 hg2
        refine hK.out _ _ ?_ (fun hHeld => ?_)
        · exact ⟨RA_u112.out, trivial⟩
        clear hK K
        (try simp only [Act.put, List.setIfInBounds_toArray, List.set_cons_zero, List.set_cons_succ])
        clear RA_u111 RY_u111 HO_u111 BT_u111
        clear HEB HYE
        refine wpAnyH_ready (rs := [4]) (by kernel_rfl) (by simp) ?_
        refine AllReadyH.cons (o := { dst := some 55, op := Op.call { callee := Callee.value (Operand.func 16), args := #[Operand.tmp 51, Operand.tmp 54], argTypes := #[25, 33] }, type := 34, pos := "law.go:84", after := #[{ on := 0, ground := Ground.data }, { on := 3, ground := Ground.data }, { on := 3, ground := Ground.chain }], guard := none }) rfl (fun K hK => ?_) AllReadyH.nil
        go_simp
        refine (C9.out _ _ HO_u112.out).mono ?_
        rintro e u113 ⟨rfl, hb⟩
        have RA_u113 := Lib.hid (RA_u112.out.under hb RA_u112.out.lt)
        have RY_u113 := Lib.hid (RY_u112.out.under hb RY_u112.out.lt)
        have BT_u113 := Lib.hid (BT_u112.out.trans (hb.mono BT_u112.out.size))
        clear hb hHeld
        refine hK.out _ _ ?_ (fun hHeld => ?_)
        · exact ⟨RA_u113.out, trivial⟩
        clear hK K
        (try simp only [Act.put, List.setIfInBounds_toArray, List.set_cons_zero, List.set_cons_succ])
        clear RA_u112 RY_u112 HO_u112 BT_u112
        refine wpAnyH_take (i := 5) (oi := { dst := some 50, op := Op.move (Operand.tmp 55), type := 34, pos := "law.go:84", after := #[{ on := 4, ground := Ground.data }], guard := none }) (v := ?_) rfl (by kernel_rfl) (by kernel_rfl) (by kernel_rfl) (fun _ _ _ h => h) (Or.inl ⟨by rfl, ?_⟩) hHeld ?_
        rotate_left
        · intro W hSw
          clear hSw
          first | (go_simp; done) | (go_simp; with_reducible rfl)
        (try simp only [Act.put, List.setIfInBounds_toArray, List.set_cons_zero, List.set_cons_succ])
        refine wpAnyH_take (i := 6) (oi := { dst := some 56, op := Op.extract (Operand.tmp 50) 0, type := 25, pos := "law.go:84", after := #[{ on := 5, ground := Ground.data }], guard := none }) (v := ?_) rfl (by kernel_rfl) (by kernel_rfl) (by kernel_rfl) (fun _ _ _ h => h) (Or.inl ⟨by rfl, ?_⟩) hHeld ?_
        rotate_left
        · intro W hSw
          clear hSw
          first | (go_simp; done) | (go_simp; with_reducible rfl)
        (try simp only [Act.put, List.setIfInBounds_toArray, List.set_cons_zero, List.set_cons_succ])
        refine wpAnyH_take (i := 7) (oi := { dst := some 57, op := Op.extract (Operand.tmp 50) 1, type := 3, pos := "law.go:84", after := #[{ on := 5, ground := Ground.data }, { on := 9, ground := Ground.gcOnly Departure.lateStores }], guard := none }) (v := ?_) rfl (by kernel_rfl) (by kernel_rfl) (by kernel_rfl) (fun _ _ _ h => h) (Or.inl ⟨by rfl, ?_⟩) hHeld ?_
        rotate_left
        · intro W hSw
          clear hSw
          first | (go_simp; done) | (go_simp; with_reducible rfl)
        (try simp only [Act.put, List.setIfInBounds_toArray, List.set_cons_zero, List.set_cons_succ])
        refine wpAnyH_ready (rs := [9]) (by kernel_rfl) (by simp) ?_
        refine AllReadyH.cons (o := { dst := none, op := Op.store 25 (Operand.tmp 9) (Operand.tmp 56), type := 0, pos := "law.go:84", after := #[{ on := 8, ground := Ground.data }, { on := 6, ground := Ground.data }, { on := 4, ground := Ground.chain }, { on := 0, ground := Ground.phase }, { on := 1, ground := Ground.phase }, { on := 2, ground := Ground.phase }, { on := 3, ground := Ground.phase }, { on := 4, ground := Ground.phase }, { on := 5, ground := Ground.phase }, { on := 6, ground := Ground.phase }, { on := 7, ground := Ground.textOnly Departure.lateStores }, { on := 8, ground := Ground.phase }], guard := none }) rfl (fun K hK => ?_) AllReadyH.nil
        rw [if_pos (by rfl)]
        refine wp_store_row 25 (.tmp 9) (.tmp 56) rfl Yb xc rfl rfl 25 _ RY_u113.out (by rw [HZ_xc.out]; exact i12) (by rw [HZ_xc.out]; rfl) H1_xc.out ?_
        clear hHeld
        have RA_f : Hid (Rw (u113.setRow Yb xc) w.heap.size cs 25) := Lib.hid ((setRow_block _ _ _ _ (Nat.ne_of_lt HYB.out.2)).trans RA_u113.out)
        have RY_f : Hid (Rw (u113.setRow Yb xc) Yb xc 25) := Lib.hid (RY_u113.out.set xc)
        have BT_f : Hid (Below w.heap.size w (u113.setRow Yb xc)) := Lib.hid (below_setRow BT_u113.out HYB.out.1 xc)
        refine hK.out _ _ ?_ (fun hHeld => ?_)
        · exact ⟨RA_f.out, trivial⟩
        clear hK K
        (try simp only [Act.put])
        refine wpAnyH_take (i := 10) (oi := { dst := some 10, op := Op.assign (Operand.tmp 57), type := 3, pos := "law.go:84", after := #[{ on := 7, ground := Ground.data }, { on := 9, ground := Ground.chain }, { on := 0, ground := Ground.phase }, { on := 1, ground := Ground.phase }, { on := 2, ground := Ground.phase }, { on := 3, ground := Ground.phase }, { on := 4, ground := Ground.phase }, { on := 5, ground := Ground.phase }, { on := 6, ground := Ground.phase }, { on := 7, ground := Ground.phase }, { on := 8, ground := Ground.phase }, { on := 9, ground := Ground.phase }], guard := none }) (v := ?_) rfl (by kernel_rfl) (by kernel_rfl) (by kernel_rfl) (fun _ _ _ h => h) (Or.inl ⟨by rfl, ?_⟩) hHeld ?_
        rotate_left
        · intro W hSw
          clear hSw
          first | (go_simp; done) | (go_simp; with_reducible rfl)
        (try simp only [Act.put, List.setIfInBounds_toArray, List.set_cons_zero, List.set_cons_succ])
        refine wpAnyH_done (by kernel_rfl) ?_ _
        go_wp2
        go_meet
        case rel => exact ⟨Yb, rfl, rfl, RA_f.out, RY_f.out, BT_f.out⟩
    case rest =>
      obtain ⟨X, rfl, rfl, h0, h1, h2⟩ := hcut
      clear R_A_3 BT3
      have R_A_4 := Lib.hid h0
      have R_X_4 := Lib.hid h1
      have BT4 := Lib.hid h2
      clear h0 h1 h2
      clear C9
      go_upto_region 10 with (fail)
      refine name_w (fun W => Rw W w.heap.size cs 25 ∧ Rw W X xc 25 ∧ Below w.heap.size w W) ⟨R_A_4.out, R_X_4.out, BT4.out⟩ ?_
      clear R_A_4 R_X_4 BT4
      rintro u5 ⟨h0, h1, h2⟩
      have R_A_5 := Lib.hid h0
      have R_X_5 := Lib.hid h1
      have BT5 := Lib.hid h2
      clear h0 h1 h2
      go_cut [11, 12] from 58 (fun sY sN W => ∃ Yb, sY = .pointer (some ⟨Yb, 0, none⟩) ∧ sN = .int .i64 FN ∧ Rw W w.heap.size cs 25 ∧ Rw W X xc 25 ∧ Rw W Yb fc 25 ∧ Below w.heap.size w W)
      case first =>
        have RA_u5 := R_A_5
        have RX_u5 := R_X_5
        have BT_u5 := BT5
        refine wp_region_held_drew (S := fun W => Rw W w.heap.size cs 25 ∧ Rw W X xc 25 ∧ True) (by kernel_rfl) ⟨RA_u5.out, RX_u5.out, trivial⟩ (fun hHeld => ?_)
        refine wpAnyH_take (i := 0) (oi := { dst := some 59, op := Op.load 25 (Operand.tmp 3), type := 25, pos := "law.go:85", after := #[], guard := none }) (v := .agg cs) rfl (by kernel_rfl) (by kernel_rfl) (by kernel_rfl) (fun _ _ _ h => h) (Or.inl ⟨by rfl, fun W hS => exec_load_row 25 (.tmp 3) rfl w.heap.size rfl 25 cs (0, 0) _ hS.1 Try.underlying25 rfl (by rw [HZ_cs.out]; exact i12)⟩) hHeld ?_
        (try simp only [Act.put, List.setIfInBounds_toArray, List.set_cons_zero, List.set_cons_succ])
        refine wpAnyH_take (i := 2) (oi := { dst := some 61, op := Op.move (Operand.tmp 1), type := 33, pos := "law.go:85", after := #[], guard := none }) (v := ?_) rfl (by kernel_rfl) (by kernel_rfl) (by kernel_rfl) (fun _ _ _ h => h) (Or.inl ⟨by rfl, ?_⟩) hHeld ?_
        rotate_left
        · intro W hSw
          clear hSw
          first | (go_simp; done) | (go_simp; with_reducible rfl)
        (try simp only [Act.put, List.setIfInBounds_toArray, List.set_cons_zero, List.set_cons_succ])
        refine wpAnyH_take (i := 3) (oi := { dst := some 62, op := Op.move (Operand.tmp 2), type := 3, pos := "law.go:85", after := #[], guard := none }) (v := ?_) rfl (by kernel_rfl) (by kernel_rfl) (by kernel_rfl) (fun _ _ _ h => h) (Or.inl ⟨by rfl, ?_⟩) hHeld ?_
        rotate_left
        · intro W hSw
          clear hSw
          first | (go_simp; done) | (go_simp; with_reducible rfl)
        (try simp only [Act.put, List.setIfInBounds_toArray, List.set_cons_zero, List.set_cons_succ])
        refine wpAnyH_take (i := 4) (oi := { dst := some 63, op := Op.slice 33 (Operand.tmp 61) none (some (Operand.tmp 62)) none, type := 33, pos := "law.go:85", after := #[{ on := 2, ground := Ground.data }, { on := 3, ground := Ground.data }], guard := none }) (v := ?_) rfl (by kernel_rfl) (by kernel_rfl) (by kernel_rfl) (fun _ _ _ h => h) (Or.inl ⟨by rfl, ?_⟩) hHeld ?_
        rotate_left
        · intro W hSw
          clear hSw
          first | (go_simp; done) | (go_simp; with_reducible rfl)
        (try simp only [Act.put, List.setIfInBounds_toArray, List.set_cons_zero, List.set_cons_succ])
        refine wpAnyH_ready (rs := [1, 10]) (by kernel_rfl) (by simp) ?_
        refine AllReadyH.cons (o := { dst := some 60, op := Op.buildSlice 33 0 #[], type := 33, pos := "law.go:85", after := #[], guard := none }) rfl (fun K hK => ?_) (AllReadyH.cons (o := { dst := some 11, op := Op.alloc 25, type := 0, pos := "law.go:85", after := #[], guard := none }) rfl (fun K hK => ?_) AllReadyH.nil)
        · go_simp
          refine hK.out _ _ ?_ (fun hHeld => ?_)
          · exact ⟨Rw.alloc RA_u5.out _, Rw.alloc RX_u5.out _, trivial⟩
          clear hK K hHeld
          (try simp only [Act.put, List.setIfInBounds_toArray, List.set_cons_zero, List.set_cons_succ])
          (try rw [show u5.drew.heap.size = u5.heap.size from rfl])
          obtain ⟨Eb, hEb⟩ : ∃ X, X = u5.heap.size := ⟨_, rfl⟩
          rw [← hEb]
          have HEB : Hid (w.heap.size ≤ Eb ∧ w.heap.size < Eb ∧ X < Eb) := Lib.hid (by rw [hEb]; exact ⟨BT_u5.out.size, RA_u5.out.lt, RX_u5.out.lt⟩)
          refine name_h (fun W => Rw W w.heap.size cs 25 ∧ Rw W X xc 25 ∧ W.ownsRow w.heap.size 27 19 (.slice (some ⟨Eb, 0, none⟩) 0 0) ([] : List Rc).length (flat ([] : List Rc)) ∧ Below w.heap.size w W ∧ Eb < W.heap.size) ⟨Rw.alloc RA_u5.out _, Rw.alloc RX_u5.out _, by rw [hEb]; exact own0 _ (hb := BT_u5.out.size), Below.alloc (below_drew BT_u5.out) BT_u5.out.size _, by rw [hEb]; simp⟩ ?_
          clear hEb
          clear RA_u5 RX_u5 BT_u5
          rintro u114 ⟨h0, h1, h2, h3, h4⟩
          have HEL := Lib.hid h4
          clear h4
          have RA_u114 := Lib.hid h0
          have RX_u114 := Lib.hid h1
          have HO_u114 := Lib.hid h2
          have BT_u114 := Lib.hid h3
          have hHeld : Rw u114 w.heap.size cs 25 ∧ Rw u114 X xc 25 ∧ True := ⟨RA_u114.out, RX_u114.out, trivial⟩
          clear h0 h1 h2 h3
          refine wpAnyH_ready (rs := [5, 10]) (by kernel_rfl) (by simp) ?_
          refine AllReadyH.cons (o := { dst := some 64, op := Op.call { callee := Callee.builtin Builtin.append, args := #[Operand.tmp 60, Operand.tmp 63], argTypes := #[33, 33] }, type := 33, pos := "law.go:85", after := #[{ on := 1, ground := Ground.data }, { on := 4, ground := Ground.data }], guard := none }) rfl (fun K hK => ?_) (AllReadyH.cons (o := { dst := some 11, op := Op.alloc 25, type := 0, pos := "law.go:85", after := #[], guard := none }) rfl (fun K hK => ?_) AllReadyH.nil)
          · obtain ⟨v2, u115, ea, hr2, hg2⟩ := append_recs HO_u114.out (HVT.out.under BT_u114.out (Nat.le_refl _)) BT_u114.out.size HN10.out
            rw [if_pos (by rfl)]
            refine wp_append_is (.tmp 60) (.tmp 63) 33 rfl rfl rfl ea ?_
            clear ea
            have kp : ∀ k, k < u114.heap.size → k ≠ Eb → u115.heap[k]? = u114.heap[k]? := fun k h1 h2 => hg2.block k h1 (by intro e; injection e with e; exact h2 e)
            have RA_u115 : Hid (Rw u115 w.heap.size cs 25) := Lib.hid ((kp _ RA_u114.out.lt (Nat.ne_of_lt HEB.out.2.1)).trans RA_u114.out)
            have RX_u115 : Hid (Rw u115 X xc 25) := Lib.hid ((kp _ RX_u114.out.lt (Nat.ne_of_lt HEB.out.2.2)).trans RX_u114.out)
            have HO_u115 := Lib.hid hr2
            have BT_u115 : Hid (Below w.heap.size w u115) := Lib.hid (below_grown' BT_u114.out hg2 HEB.out.1 (Nat.le_refl _))
            clear hHeld kp hr2 hg2
            refine hK.out _ _ ?_ (fun hHeld => ?_)
            · exact ⟨RA_u115.out, RX_u115.out, trivial⟩
            clear hK K
            (try simp only [Act.put, List.setIfInBounds_toArray, List.set_cons_zero, List.set_cons_succ])
            clear RA_u114 RX_u114 HO_u114 BT_u114
            clear HEL
            clear HEB 
            refine wpAnyH_ready (rs := [6, 10]) (by kernel_rfl) (by simp) ?_
            refine AllReadyH.cons (o := { dst := some 65, op := Op.call { callee := Callee.value (Operand.func 16), args := #[Operand.tmp 59, Operand.tmp 64], argTypes := #[25, 33] }, type := 34, pos := "law.go:85", after := #[{ on := 0, ground := Ground.data }, { on := 5, ground := Ground.data }, { on := 5, ground := Ground.chain }], guard := none }) rfl (fun K hK => ?_) (AllReadyH.cons (o := { dst := some 11, op := Op.alloc 25, type := 0, pos := "law.go:85", after := #[], guard := none }) rfl (fun K hK => ?_) AllReadyH.nil)
            · go_simp
              refine (C10.out _ _ HO_u115.out).mono ?_
              rintro e u116 ⟨rfl, hb⟩
              have RA_u116 := Lib.hid (RA_u115.out.under hb RA_u115.out.lt)
              have RX_u116 := Lib.hid (RX_u115.out.under hb RX_u115.out.lt)
              have BT_u116 := Lib.hid (BT_u115.out.trans (hb.mono BT_u115.out.size))
              clear hb hHeld
              refine hK.out _ _ ?_ (fun hHeld => ?_)
              · exact ⟨RA_u116.out, RX_u116.out, trivial⟩
              clear hK K
              (try simp only [Act.put, List.setIfInBounds_toArray, List.set_cons_zero, List.set_cons_succ])
              clear RA_u115 RX_u115 HO_u115 BT_u115
              refine wpAnyH_take (i := 7) (oi := { dst := some 58, op := Op.move (Operand.tmp 65), type := 34, pos := "law.go:85", after := #[{ on := 6, ground := Ground.data }], guard := none }) (v := ?_) rfl (by kernel_rfl) (by kernel_rfl) (by kernel_rfl) (fun _ _ _ h => h) (Or.inl ⟨by rfl, ?_⟩) hHeld ?_
              rotate_left
              · intro W hSw
                clear hSw
                first | (go_simp; done) | (go_simp; with_reducible rfl)
              (try simp only [Act.put, List.setIfInBounds_toArray, List.set_cons_zero, List.set_cons_succ])
              refine wpAnyH_take (i := 8) (oi := { dst := some 66, op := Op.extract (Operand.tmp 58) 0, type := 25, pos := "law.go:85", after := #[{ on := 7, ground := Ground.data }], guard := none }) (v := ?_) rfl (by kernel_rfl) (by kernel_rfl) (by kernel_rfl) (fun _ _ _ h => h) (Or.inl ⟨by rfl, ?_⟩) hHeld ?_
              rotate_left
              · intro W hSw
                clear hSw
                first | (go_simp; done) | (go_simp; with_reducible rfl)
              (try simp only [Act.put, List.setIfInBounds_toArray, List.set_cons_zero, List.set_cons_succ])
              refine wpAnyH_take (i := 9) (oi := { dst := some 67, op := Op.extract (Operand.tmp 58) 1, type := 3, pos := "law.go:85", after := #[{ on := 7, ground := Ground.data }, { on := 11, ground := Ground.gcOnly Departure.lateStores }], guard := none }) (v := ?_) rfl (by kernel_rfl) (by kernel_rfl) (by kernel_rfl) (fun _ _ _ h => h) (Or.inl ⟨by rfl, ?_⟩) hHeld ?_
              rotate_left
              · intro W hSw
                clear hSw
                first | (go_simp; done) | (go_simp; with_reducible rfl)
              (try simp only [Act.put, List.setIfInBounds_toArray, List.set_cons_zero, List.set_cons_succ])
              refine wpAnyH_ready (rs := [10]) (by kernel_rfl) (by simp) ?_
              refine AllReadyH.cons (o := { dst := some 11, op := Op.alloc 25, type := 0, pos := "law.go:85", after := #[], guard := none }) rfl (fun K hK => ?_) AllReadyH.nil
              go_simp
              refine hK.out _ _ ?_ (fun hHeld => ?_)
              · exact ⟨Rw.alloc RA_u116.out _, Rw.alloc RX_u116.out _, trivial⟩
              clear hK K hHeld
              (try simp only [Act.put, List.setIfInBounds_toArray, List.set_cons_zero, List.set_cons_succ])
              obtain ⟨Yb, hYb⟩ : ∃ X, X = u116.heap.size := ⟨_, rfl⟩
              rw [← hYb]
              have HYB : Hid (w.heap.size ≤ Yb ∧ w.heap.size < Yb ∧ X < Yb) := Lib.hid (by rw [hYb]; exact ⟨BT_u116.out.size, RA_u116.out.lt, RX_u116.out.lt⟩)
              refine name_h (fun W => Rw W w.heap.size cs 25 ∧ Rw W X xc 25 ∧ Rw W Yb zeroSC 25 ∧ Below w.heap.size w W) ⟨Rw.alloc RA_u116.out _, Rw.alloc RX_u116.out _, by rw [hYb]; exact Rw.new _ _ _, Below.alloc BT_u116.out BT_u116.out.size _⟩ ?_
              clear hYb 
              clear RA_u116 RX_u116 BT_u116
              rintro u117 ⟨h0, h1, h2, h3⟩
              have RA_u117 := Lib.hid h0
              have RX_u117 := Lib.hid h1
              have RY_u117 := Lib.hid h2
              have BT_u117 := Lib.hid h3
              have hHeld : Rw u117 w.heap.size cs 25 ∧ Rw u117 X xc 25 ∧ True := ⟨RA_u117.out, RX_u117.out, trivial⟩
              clear h0 h1 h2 h3
              refine wpAnyH_ready (rs := [11]) (by kernel_rfl) (by simp) ?_
              refine AllReadyH.cons (o := { dst := none, op := Op.store 25 (Operand.tmp 11) (Operand.tmp 66), type := 0, pos := "law.go:85", after := #[{ on := 10, ground := Ground.data }, { on := 8, ground := Ground.data }, { on := 6, ground := Ground.chain }, { on := 0, ground := Ground.phase }, { on := 1, ground := Ground.phase }, { on := 2, ground := Ground.phase }, { on := 3, ground := Ground.phase }, { on := 4, ground := Ground.phase }, { on := 5, ground := Ground.phase }, { on := 6, ground := Ground.phase }, { on := 7, ground := Ground.phase }, { on := 8, ground := Ground.phase }, { on := 9, ground := Ground.textOnly Departure.lateStores }, { on := 10, ground := Ground.phase }], guard := none }) rfl (fun K hK => ?_) AllReadyH.nil
              rw [if_pos (by rfl)]
              refine wp_store_row 25 (.tmp 11) (.tmp 66) rfl Yb fc rfl rfl 25 _ RY_u117.out (by rw [HZ_fc.out]; exact i12) (by rw [HZ_fc.out]; rfl) H1_fc.out ?_
              clear hHeld
              have RA_f : Hid (Rw (u117.setRow Yb fc) w.heap.size cs 25) := Lib.hid ((setRow_block _ _ _ _ (Nat.ne_of_lt HYB.out.2.1)).trans RA_u117.out)
              have RX_f : Hid (Rw (u117.setRow Yb fc) X xc 25) := Lib.hid ((setRow_block _ _ _ _ (Nat.ne_of_lt HYB.out.2.2)).trans RX_u117.out)
              have RY_f : Hid (Rw (u117.setRow Yb fc) Yb fc 25) := Lib.hid (RY_u117.out.set fc)
              have BT_f : Hid (Below w.heap.size w (u117.setRow Yb fc)) := Lib.hid (below_setRow BT_u117.out HYB.out.1 fc)
              refine hK.out _ _ ?_ (fun hHeld => ?_)
              · exact ⟨RA_f.out, RX_f.out, trivial⟩
              clear hK K
              (try simp only [Act.put])
              refine wpAnyH_take (i := 12) (oi := { dst := some 12, op := Op.assign (Operand.tmp 67), type := 3, pos := "law.go:85", after := #[{ on := 9, ground := Ground.data }, { on := 11, ground := Ground.chain }, { on := 0, ground := Ground.phase }, { on := 1, ground := Ground.phase }, { on := 2, ground := Ground.phase }, { on := 3, ground := Ground.phase }, { on := 4, ground := Ground.phase }, { on := 5, ground := Ground.phase }, { on := 6, ground := Ground.phase }, { on := 7, ground := Ground.phase }, { on := 8, ground := Ground.phase }, { on := 9, ground := Ground.phase }, { on := 10, ground := Ground.phase }, { on := 11, ground := Ground.phase }], guard := none }) (v := ?_) rfl (by kernel_rfl) (by kernel_rfl) (by kernel_rfl) (fun _ _ _ h => h) (Or.inl ⟨by rfl, ?_⟩) hHeld ?_
              rotate_left
              · intro W hSw
                clear hSw
                first | (go_simp; done) | (go_simp; with_reducible rfl)
              (try simp only [Act.put, List.setIfInBounds_toArray, List.set_cons_zero, List.set_cons_succ])
              refine wpAnyH_done (by kernel_rfl) ?_ _
              go_wp2
              go_meet
              case rel => exact ⟨Yb, rfl, rfl, RA_f.out, RX_f.out, RY_f.out, BT_f.out⟩
            · go_simp
              refine hK.out _ _ ?_ (fun hHeld => ?_)
              · exact ⟨Rw.alloc RA_u115.out _, Rw.alloc RX_u115.out _, trivial⟩
              clear hK K hHeld
              (try simp only [Act.put, List.setIfInBounds_toArray, List.set_cons_zero, List.set_cons_succ])
              obtain ⟨Yb, hYb⟩ : ∃ X, X = u115.heap.size := ⟨_, rfl⟩
              rw [← hYb]
              have HYB : Hid (w.heap.size ≤ Yb ∧ w.heap.size < Yb ∧ X < Yb) := Lib.hid (by rw [hYb]; exact ⟨BT_u115.out.size, RA_u115.out.lt, RX_u115.out.lt⟩)
              refine name_h (fun W => Rw W w.heap.size cs 25 ∧ Rw W X xc 25 ∧ Rw W Yb zeroSC 25 ∧ Recs W v2 (([] : List Rc) ++ rs.take a) ∧ Below w.heap.size w W) ⟨Rw.alloc RA_u115.out _, Rw.alloc RX_u115.out _, by rw [hYb]; exact Rw.new _ _ _, HO_u115.out.under ((Below.refl _ _).alloc (Nat.le_refl _) _) (Nat.le_refl _), Below.alloc BT_u115.out BT_u115.out.size _⟩ ?_
              clear hYb 
              clear RA_u115 RX_u115 HO_u115 BT_u115
              rintro u118 ⟨h0, h1, h2, h3, h4⟩
              have RA_u118 := Lib.hid h0
              have RX_u118 := Lib.hid h1
              have RY_u118 := Lib.hid h2
              have HO_u118 := Lib.hid h3
              have BT_u118 := Lib.hid h4
              have hHeld : Rw u118 w.heap.size cs 25 ∧ Rw u118 X xc 25 ∧ True := ⟨RA_u118.out, RX_u118.out, trivial⟩
              clear h0 h1 h2 h3 h4
              refine wpAnyH_ready (rs := [6]) (by kernel_rfl) (by simp) ?_
              refine AllReadyH.cons (o := { dst := some 65, op := Op.call { callee := Callee.value (Operand.func 16), args := #[Operand.tmp 59, Operand.tmp 64], argTypes := #[25, 33] }, type := 34, pos := "law.go:85", after := #[{ on := 0, ground := Ground.data }, { on := 5, ground := Ground.data }, { on := 5, ground := Ground.chain }], guard := none }) rfl (fun K hK => ?_) AllReadyH.nil
              go_simp
              refine (C10.out _ _ HO_u118.out).mono ?_
              rintro e u119 ⟨rfl, hb⟩
              have RA_u119 := Lib.hid (RA_u118.out.under hb RA_u118.out.lt)
              have RX_u119 := Lib.hid (RX_u118.out.under hb RX_u118.out.lt)
              have RY_u119 := Lib.hid (RY_u118.out.under hb RY_u118.out.lt)
              have BT_u119 := Lib.hid (BT_u118.out.trans (hb.mono BT_u118.out.size))
              clear hb hHeld
              refine hK.out _ _ ?_ (fun hHeld => ?_)
              · exact ⟨RA_u119.out, RX_u119.out, trivial⟩
              clear hK K
              (try simp only [Act.put, List.setIfInBounds_toArray, List.set_cons_zero, List.set_cons_succ])
              clear RA_u118 RX_u118 RY_u118 HO_u118 BT_u118
              refine wpAnyH_take (i := 7) (oi := { dst := some 58, op := Op.move (Operand.tmp 65), type := 34, pos := "law.go:85", after := #[{ on := 6, ground := Ground.data }], guard := none }) (v := ?_) rfl (by kernel_rfl) (by kernel_rfl) (by kernel_rfl) (fun _ _ _ h => h) (Or.inl ⟨by rfl, ?_⟩) hHeld ?_
              rotate_left
              · intro W hSw
                clear hSw
                first | (go_simp; done) | (go_simp; with_reducible rfl)
              (try simp only [Act.put, List.setIfInBounds_toArray, List.set_cons_zero, List.set_cons_succ])
              refine wpAnyH_take (i := 8) (oi := { dst := some 66, op := Op.extract (Operand.tmp 58) 0, type := 25, pos := "law.go:85", after := #[{ on := 7, ground := Ground.data }], guard := none }) (v := ?_) rfl (by kernel_rfl) (by kernel_rfl) (by kernel_rfl) (fun _ _ _ h => h) (Or.inl ⟨by rfl, ?_⟩) hHeld ?_
              rotate_left
              · intro W hSw
                clear hSw
                first | (go_simp; done) | (go_simp; with_reducible rfl)
              (try simp only [Act.put, List.setIfInBounds_toArray, List.set_cons_zero, List.set_cons_succ])
              refine wpAnyH_take (i := 9) (oi := { dst := some 67, op := Op.extract (Operand.tmp 58) 1, type := 3, pos := "law.go:85", after := #[{ on := 7, ground := Ground.data }, { on := 11, ground := Ground.gcOnly Departure.lateStores }], guard := none }) (v := ?_) rfl (by kernel_rfl) (by kernel_rfl) (by kernel_rfl) (fun _ _ _ h => h) (Or.inl ⟨by rfl, ?_⟩) hHeld ?_
              rotate_left
              · intro W hSw
                clear hSw
                first | (go_simp; done) | (go_simp; with_reducible rfl)
              (try simp only [Act.put, List.setIfInBounds_toArray, List.set_cons_zero, List.set_cons_succ])
              refine wpAnyH_ready (rs := [11]) (by kernel_rfl) (by simp) ?_
              refine AllReadyH.cons (o := { dst := none, op := Op.store 25 (Operand.tmp 11) (Operand.tmp 66), type := 0, pos := "law.go:85", after := #[{ on := 10, ground := Ground.data }, { on := 8, ground := Ground.data }, { on := 6, ground := Ground.chain }, { on := 0, ground := Ground.phase }, { on := 1, ground := Ground.phase }, { on := 2, ground := Ground.phase }, { on := 3, ground := Ground.phase }, { on := 4, ground := Ground.phase }, { on := 5, ground := Ground.phase }, { on := 6, ground := Ground.phase }, { on := 7, ground := Ground.phase }, { on := 8, ground := Ground.phase }, { on := 9, ground := Ground.textOnly Departure.lateStores }, { on := 10, ground := Ground.phase }], guard := none }) rfl (fun K hK => ?_) AllReadyH.nil
              rw [if_pos (by rfl)]
              refine wp_store_row 25 (.tmp 11) (.tmp 66) rfl Yb fc rfl rfl 25 _ RY_u119.out (by rw [HZ_fc.out]; exact i12) (by rw [HZ_fc.out]; rfl) H1_fc.out ?_
              clear hHeld
              have RA_f : Hid (Rw (u119.setRow Yb fc) w.heap.size cs 25) := Lib.hid ((setRow_block _ _ _ _ (Nat.ne_of_lt HYB.out.2.1)).trans RA_u119.out)
              have RX_f : Hid (Rw (u119.setRow Yb fc) X xc 25) := Lib.hid ((setRow_block _ _ _ _ (Nat.ne_of_lt HYB.out.2.2)).trans RX_u119.out)
              have RY_f : Hid (Rw (u119.setRow Yb fc) Yb fc 25) := Lib.hid (RY_u119.out.set fc)
              have BT_f : Hid (Below w.heap.size w (u119.setRow Yb fc)) := Lib.hid (below_setRow BT_u119.out HYB.out.1 fc)
              refine hK.out _ _ ?_ (fun hHeld => ?_)
              · exact ⟨RA_f.out, RX_f.out, trivial⟩
              clear hK K
              (try simp only [Act.put])
              refine wpAnyH_take (i := 12) (oi := { dst := some 12, op := Op.assign (Operand.tmp 67), type := 3, pos := "law.go:85", after := #[{ on := 9, ground := Ground.data }, { on := 11, ground := Ground.chain }, { on := 0, ground := Ground.phase }, { on := 1, ground := Ground.phase }, { on := 2, ground := Ground.phase }, { on := 3, ground := Ground.phase }, { on := 4, ground := Ground.phase }, { on := 5, ground := Ground.phase }, { on := 6, ground := Ground.phase }, { on := 7, ground := Ground.phase }, { on := 8, ground := Ground.phase }, { on := 9, ground := Ground.phase }, { on := 10, ground := Ground.phase }, { on := 11, ground := Ground.phase }], guard := none }) (v := ?_) rfl (by kernel_rfl) (by kernel_rfl) (by kernel_rfl) (fun _ _ _ h => h) (Or.inl ⟨by rfl, ?_⟩) hHeld ?_
              rotate_left
              · intro W hSw
                clear hSw
                first | (go_simp; done) | (go_simp; with_reducible rfl)
              (try simp only [Act.put, List.setIfInBounds_toArray, List.set_cons_zero, List.set_cons_succ])
              refine wpAnyH_done (by kernel_rfl) ?_ _
              go_wp2
              go_meet
              case rel => exact ⟨Yb, rfl, rfl, RA_f.out, RX_f.out, RY_f.out, BT_f.out⟩
          · go_simp
            refine hK.out _ _ ?_ (fun hHeld => ?_)
            · exact ⟨Rw.alloc RA_u114.out _, Rw.alloc RX_u114.out _, trivial⟩
            clear hK K hHeld
            (try simp only [Act.put, List.setIfInBounds_toArray, List.set_cons_zero, List.set_cons_succ])
            obtain ⟨Yb, hYb⟩ : ∃ X, X = u114.heap.size := ⟨_, rfl⟩
            rw [← hYb]
            have HYB : Hid (w.heap.size ≤ Yb ∧ w.heap.size < Yb ∧ X < Yb) := Lib.hid (by rw [hYb]; exact ⟨BT_u114.out.size, RA_u114.out.lt, RX_u114.out.lt⟩)
            have HYE : Hid (Yb ≠ Eb) := Lib.hid (by rw [hYb]; exact Nat.ne_of_gt HEL.out)
            refine name_h (fun W => Rw W w.heap.size cs 25 ∧ Rw W X xc 25 ∧ Rw W Yb zeroSC 25 ∧ W.ownsRow w.heap.size 27 19 (.slice (some ⟨Eb, 0, none⟩) 0 0) ([] : List Rc).length (flat ([] : List Rc)) ∧ Below w.heap.size w W) ⟨Rw.alloc RA_u114.out _, Rw.alloc RX_u114.out _, by rw [hYb]; exact Rw.new _ _ _, World.ownsRow.alloc HO_u114.out _, Below.alloc BT_u114.out BT_u114.out.size _⟩ ?_
            clear hYb HEL
            clear RA_u114 RX_u114 HO_u114 BT_u114
            rintro u120 ⟨h0, h1, h2, h3, h4⟩
            have RA_u120 := Lib.hid h0
            have RX_u120 := Lib.hid h1
            have RY_u120 := Lib.hid h2
            have HO_u120 := Lib.hid h3
            have BT_u120 := Lib.hid h4
            have hHeld : Rw u120 w.heap.size cs 25 ∧ Rw u120 X xc 25 ∧ True := ⟨RA_u120.out, RX_u120.out, trivial⟩
            clear h0 h1 h2 h3 h4
            refine wpAnyH_ready (rs := [5]) (by kernel_rfl) (by simp) ?_
            refine AllReadyH.cons (o := { dst := some 64, op := Op.call { callee := Callee.builtin Builtin.append, args := #[Operand.tmp 60, Operand.tmp 63], argTypes := #[33, 33] }, type := 33, pos := "law.go:85", after := #[{ on := 1, ground := Ground.data }, { on := 4, ground := Ground.data }], guard := none }) rfl (fun K hK => ?_) AllReadyH.nil
            obtain ⟨v2, u121, ea, hr2, hg2⟩ := append_recs HO_u120.out (HVT.out.under BT_u120.out (Nat.le_refl _)) BT_u120.out.size HN10.out
            rw [if_pos (by rfl)]
            refine wp_append_is (.tmp 60) (.tmp 63) 33 rfl rfl rfl ea ?_
            clear ea
            have kp : ∀ k, k < u120.heap.size → k ≠ Eb → u121.heap[k]? = u120.heap[k]? := fun k h1 h2 => hg2.block k h1 (by intro e; injection e with e; exact h2 e)
            have RA_u121 : Hid (Rw u121 w.heap.size cs 25) := Lib.hid ((kp _ RA_u120.out.lt (Nat.ne_of_lt HEB.out.2.1)).trans RA_u120.out)
            have RX_u121 : Hid (Rw u121 X xc 25) := Lib.hid ((kp _ RX_u120.out.lt (Nat.ne_of_lt HEB.out.2.2)).trans RX_u120.out)
            have RY_u121 : Hid (Rw u121 Yb zeroSC 25) := Lib.hid ((kp _ RY_u120.out.lt HYE.out).trans RY_u120.out)
            have HO_u121 := Lib.hid hr2
            have BT_u121 : Hid (Below w.heap.size w u121) := Lib.hid (below_grown' BT_u120.out hg2 HEB.out.1 (Nat.le_refl _))
            clear hHeld kp hr2 hg2
            refine hK.out _ _ ?_ (fun hHeld => ?_)
            · exact ⟨RA_u121.out, RX_u121.out, trivial⟩
            clear hK K
            (try simp only [Act.put, List.setIfInBounds_toArray, List.set_cons_zero, List.set_cons_succ])
            clear RA_u120 RX_u120 RY_u120 HO_u120 BT_u120
            clear HEB HYE
            refine wpAnyH_ready (rs := [6]) (by kernel_rfl) (by simp) ?_
            refine AllReadyH.cons (o := { dst := some 65, op := Op.call { callee := Callee.value (Operand.func 16), args := #[Operand.tmp 59, Operand.tmp 64], argTypes := #[25, 33] }, type := 34, pos := "law.go:85", after := #[{ on := 0, ground := Ground.data }, { on := 5, ground := Ground.data }, { on := 5, ground := Ground.chain }], guard := none }) rfl (fun K hK => ?_) AllReadyH.nil
            go_simp
            refine (C10.out _ _ HO_u121.out).mono ?_
            rintro e u122 ⟨rfl, hb⟩
            have RA_u122 := Lib.hid (RA_u121.out.under hb RA_u121.out.lt)
            have RX_u122 := Lib.hid (RX_u121.out.under hb RX_u121.out.lt)
            have RY_u122 := Lib.hid (RY_u121.out.under hb RY_u121.out.lt)
            have BT_u122 := Lib.hid (BT_u121.out.trans (hb.mono BT_u121.out.size))
            clear hb hHeld
            refine hK.out _ _ ?_ (fun hHeld => ?_)
            · exact ⟨RA_u122.out, RX_u122.out, trivial⟩
            clear hK K
            (try simp only [Act.put, List.setIfInBounds_toArray, List.set_cons_zero, List.set_cons_succ])
            clear RA_u121 RX_u121 RY_u121 HO_u121 BT_u121
            refine wpAnyH_take (i := 7) (oi := { dst := some 58, op := Op.move (Operand.tmp 65), type := 34, pos := "law.go:85", after := #[{ on := 6, ground := Ground.data }], guard := none }) (v := ?_) rfl (by kernel_rfl) (by kernel_rfl) (by kernel_rfl) (fun _ _ _ h => h) (Or.inl ⟨by rfl, ?_⟩) hHeld ?_
            rotate_left
            · intro W hSw
              clear hSw
              first | (go_simp; done) | (go_simp; with_reducible rfl)
            (try simp only [Act.put, List.setIfInBounds_toArray, List.set_cons_zero, List.set_cons_succ])
            refine wpAnyH_take (i := 8) (oi := { dst := some 66, op := Op.extract (Operand.tmp 58) 0, type := 25, pos := "law.go:85", after := #[{ on := 7, ground := Ground.data }], guard := none }) (v := ?_) rfl (by kernel_rfl) (by kernel_rfl) (by kernel_rfl) (fun _ _ _ h => h) (Or.inl ⟨by rfl, ?_⟩) hHeld ?_
            rotate_left
            · intro W hSw
              clear hSw
              first | (go_simp; done) | (go_simp; with_reducible rfl)
            (try simp only [Act.put, List.setIfInBounds_toArray, List.set_cons_zero, List.set_cons_succ])
            refine wpAnyH_take (i := 9) (oi := { dst := some 67, op := Op.extract (Operand.tmp 58) 1, type := 3, pos := "law.go:85", after := #[{ on := 7, ground := Ground.data }, { on := 11, ground := Ground.gcOnly Departure.lateStores }], guard := none }) (v := ?_) rfl (by kernel_rfl) (by kernel_rfl) (by kernel_rfl) (fun _ _ _ h => h) (Or.inl ⟨by rfl, ?_⟩) hHeld ?_
            rotate_left
            · intro W hSw
              clear hSw
              first | (go_simp; done) | (go_simp; with_reducible rfl)
            (try simp only [Act.put, List.setIfInBounds_toArray, List.set_cons_zero, List.set_cons_succ])
            refine wpAnyH_ready (rs := [11]) (by kernel_rfl) (by simp) ?_
            refine AllReadyH.cons (o := { dst := none, op := Op.store 25 (Operand.tmp 11) (Operand.tmp 66), type := 0, pos := "law.go:85", after := #[{ on := 10, ground := Ground.data }, { on := 8, ground := Ground.data }, { on := 6, ground := Ground.chain }, { on := 0, ground := Ground.phase }, { on := 1, ground := Ground.phase }, { on := 2, ground := Ground.phase }, { on := 3, ground := Ground.phase }, { on := 4, ground := Ground.phase }, { on := 5, ground := Ground.phase }, { on := 6, ground := Ground.phase }, { on := 7, ground := Ground.phase }, { on := 8, ground := Ground.phase }, { on := 9, ground := Ground.textOnly Departure.lateStores }, { on := 10, ground := Ground.phase }], guard := none }) rfl (fun K hK => ?_) AllReadyH.nil
            rw [if_pos (by rfl)]
            refine wp_store_row 25 (.tmp 11) (.tmp 66) rfl Yb fc rfl rfl 25 _ RY_u122.out (by rw [HZ_fc.out]; exact i12) (by rw [HZ_fc.out]; rfl) H1_fc.out ?_
            clear hHeld
            have RA_f : Hid (Rw (u122.setRow Yb fc) w.heap.size cs 25) := Lib.hid ((setRow_block _ _ _ _ (Nat.ne_of_lt HYB.out.2.1)).trans RA_u122.out)
            have RX_f : Hid (Rw (u122.setRow Yb fc) X xc 25) := Lib.hid ((setRow_block _ _ _ _ (Nat.ne_of_lt HYB.out.2.2)).trans RX_u122.out)
            have RY_f : Hid (Rw (u122.setRow Yb fc) Yb fc 25) := Lib.hid (RY_u122.out.set fc)
            have BT_f : Hid (Below w.heap.size w (u122.setRow Yb fc)) := Lib.hid (below_setRow BT_u122.out HYB.out.1 fc)
            refine hK.out _ _ ?_ (fun hHeld => ?_)
            · exact ⟨RA_f.out, RX_f.out, trivial⟩
            clear hK K
            (try simp only [Act.put])
            refine wpAnyH_take (i := 12) (oi := { dst := some 12, op := Op.assign (Operand.tmp 67), type := 3, pos := "law.go:85", after := #[{ on := 9, ground := Ground.data }, { on := 11, ground := Ground.chain }, { on := 0, ground := Ground.phase }, { on := 1, ground := Ground.phase }, { on := 2, ground := Ground.phase }, { on := 3, ground := Ground.phase }, { on := 4, ground := Ground.phase }, { on := 5, ground := Ground.phase }, { on := 6, ground := Ground.phase }, { on := 7, ground := Ground.phase }, { on := 8, ground := Ground.phase }, { on := 9, ground := Ground.phase }, { on := 10, ground := Ground.phase }, { on := 11, ground := Ground.phase }], guard := none }) (v := ?_) rfl (by kernel_rfl) (by kernel_rfl) (by kernel_rfl) (fun _ _ _ h => h) (Or.inl ⟨by rfl, ?_⟩) hHeld ?_
            rotate_left
            · intro W hSw
              clear hSw
              first | (go_simp; done) | (go_simp; with_reducible rfl)
            (try simp only [Act.put, List.setIfInBounds_toArray, List.set_cons_zero, List.set_cons_succ])
            refine wpAnyH_done (by kernel_rfl) ?_ _
            go_wp2
            go_meet
            case rel => exact ⟨Yb, rfl, rfl, RA_f.out, RX_f.out, RY_f.out, BT_f.out⟩
        · go_simp
          refine hK.out _ _ ?_ (fun hHeld => ?_)
          · exact ⟨Rw.alloc RA_u5.out _, Rw.alloc RX_u5.out _, trivial⟩
          clear hK K hHeld
          (try simp only [Act.put, List.setIfInBounds_toArray, List.set_cons_zero, List.set_cons_succ])
          obtain ⟨Yb, hYb⟩ : ∃ X, X = u5.heap.size := ⟨_, rfl⟩
          rw [← hYb]
          have HYB : Hid (w.heap.size ≤ Yb ∧ w.heap.size < Yb ∧ X < Yb) := Lib.hid (by rw [hYb]; exact ⟨BT_u5.out.size, RA_u5.out.lt, RX_u5.out.lt⟩)
          refine name_h (fun W => Rw W w.heap.size cs 25 ∧ Rw W X xc 25 ∧ Rw W Yb zeroSC 25 ∧ Below w.heap.size w W) ⟨Rw.alloc RA_u5.out _, Rw.alloc RX_u5.out _, by rw [hYb]; exact Rw.new _ _ _, Below.alloc (below_drew BT_u5.out) BT_u5.out.size _⟩ ?_
          clear hYb 
          clear RA_u5 RX_u5 BT_u5
          rintro u123 ⟨h0, h1, h2, h3⟩
          have RA_u123 := Lib.hid h0
          have RX_u123 := Lib.hid h1
          have RY_u123 := Lib.hid h2
          have BT_u123 := Lib.hid h3
          have hHeld : Rw u123 w.heap.size cs 25 ∧ Rw u123 X xc 25 ∧ True := ⟨RA_u123.out, RX_u123.out, trivial⟩
          clear h0 h1 h2 h3
          refine wpAnyH_ready (rs := [1]) (by kernel_rfl) (by simp) ?_
          refine AllReadyH.cons (o := { dst := some 60, op := Op.buildSlice 33 0 #[], type := 33, pos := "law.go:85", after := #[], guard := none }) rfl (fun K hK => ?_) AllReadyH.nil
          go_simp
          refine hK.out _ _ ?_ (fun hHeld => ?_)
          · exact ⟨Rw.alloc RA_u123.out _, Rw.alloc RX_u123.out _, trivial⟩
          clear hK K hHeld
          (try simp only [Act.put, List.setIfInBounds_toArray, List.set_cons_zero, List.set_cons_succ])
          (try skip)
          obtain ⟨Eb, hEb⟩ : ∃ X, X = u123.heap.size := ⟨_, rfl⟩
          rw [← hEb]
          have HEB : Hid (w.heap.size ≤ Eb ∧ w.heap.size < Eb ∧ X < Eb) := Lib.hid (by rw [hEb]; exact ⟨BT_u123.out.size, RA_u123.out.lt, RX_u123.out.lt⟩)
          have HYE : Hid (Yb ≠ Eb) := Lib.hid (by rw [hEb]; exact Nat.ne_of_lt RY_u123.out.lt)
          refine name_h (fun W => Rw W w.heap.size cs 25 ∧ Rw W X xc 25 ∧ Rw W Yb zeroSC 25 ∧ W.ownsRow w.heap.size 27 19 (.slice (some ⟨Eb, 0, none⟩) 0 0) ([] : List Rc).length (flat ([] : List Rc)) ∧ Below w.heap.size w W ∧ Eb < W.heap.size) ⟨Rw.alloc RA_u123.out _, Rw.alloc RX_u123.out _, Rw.alloc RY_u123.out _, by rw [hEb]; exact own0 _ (hb := BT_u123.out.size), Below.alloc BT_u123.out BT_u123.out.size _, by rw [hEb]; simp⟩ ?_
          clear hEb
          clear RA_u123 RX_u123 RY_u123 BT_u123
          rintro u124 ⟨h0, h1, h2, h3, h4, h5⟩
          have HEL := Lib.hid h5
          clear h5
          have RA_u124 := Lib.hid h0
          have RX_u124 := Lib.hid h1
          have RY_u124 := Lib.hid h2
          have HO_u124 := Lib.hid h3
          have BT_u124 := Lib.hid h4
          have hHeld : Rw u124 w.heap.size cs 25 ∧ Rw u124 X xc 25 ∧ True := ⟨RA_u124.out, RX_u124.out, trivial⟩
          clear h0 h1 h2 h3 h4
          clear HEL
          refine wpAnyH_ready (rs := [5]) (by kernel_rfl) (by simp) ?_
          refine AllReadyH.cons (o := { dst := some 64, op := Op.call { callee := Callee.builtin Builtin.append, args := #[Operand.tmp 60, Operand.tmp 63], argTypes := #[33, 33] }, type := 33, pos := "law.go:85", after := #[{ on := 1, ground := Ground.data }, { on := 4, ground := Ground.data }], guard := none }) rfl (fun K hK => ?_) AllReadyH.nil
          obtain ⟨v2, u125, ea, hr2, hg2⟩ := append_recs HO_u124.out (HVT.out.under BT_u124.out (Nat.le_refl _)) BT_u124.out.size HN10.out
          rw [if_pos (by rfl)]
          refine wp_append_is (.tmp 60) (.tmp 63) 33 rfl rfl rfl ea ?_
          clear ea
          have kp : ∀ k, k < u124.heap.size → k ≠ Eb → u125.heap[k]? = u124.heap[k]? := fun k h1 h2 => hg2.block k h1 (by intro e; injection e with e; exact h2 e)
          have RA_u125 : Hid (Rw u125 w.heap.size cs 25) := Lib.hid ((kp _ RA_u124.out.lt (Nat.ne_of_lt HEB.out.2.1)).trans RA_u124.out)
          have RX_u125 : Hid (Rw u125 X xc 25) := Lib.hid ((kp _ RX_u124.out.lt (Nat.ne_of_lt HEB.out.2.2)).trans RX_u124.out)
          have RY_u125 : Hid (Rw u125 Yb zeroSC 25) := Lib.hid ((kp _ RY_u124.out.lt HYE.out).trans RY_u124.out)
          have HO_u125 := Lib.hid hr2
          have BT_u125 : Hid (Below w.heap.size w u125) := Lib.hid (below_grown' BT_u124.out hg2 HEB.out.1 (Nat.le_refl _))
          clear hHeld kp hr2 hg2
          refine hK.out _ _ ?_ (fun hHeld => ?_)
          · exact ⟨RA_u125.out, RX_u125.out, trivial⟩
          clear hK K
          (try simp only [Act.put, List.setIfInBounds_toArray, List.set_cons_zero, List.set_cons_succ])
          clear RA_u124 RX_u124 RY_u124 HO_u124 BT_u124
          clear HEB HYE
          refine wpAnyH_ready (rs := [6]) (by kernel_rfl) (by simp) ?_
          refine AllReadyH.cons (o := { dst := some 65, op := Op.call { callee := Callee.value (Operand.func 16), args := #[Operand.tmp 59, Operand.tmp 64], argTypes := #[25, 33] }, type := 34, pos := "law.go:85", after := #[{ on := 0, ground := Ground.data }, { on := 5, ground := Ground.data }, { on := 5, ground := Ground.chain }], guard := none }) rfl (fun K hK => ?_) AllReadyH.nil
          go_simp
          refine (C10.out _ _ HO_u125.out).mono ?_
          rintro e u126 ⟨rfl, hb⟩
          have RA_u126 := Lib.hid (RA_u125.out.under hb RA_u125.out.lt)
          have RX_u126 := Lib.hid (RX_u125.out.under hb RX_u125.out.lt)
          have RY_u126 := Lib.hid (RY_u125.out.under hb RY_u125.out.lt)
          have BT_u126 := Lib.hid (BT_u125.out.trans (hb.mono BT_u125.out.size))
          clear hb hHeld
          refine hK.out _ _ ?_ (fun hHeld => ?_)
          · exact ⟨RA_u126.out, RX_u126.out, trivial⟩
          clear hK K
          (try simp only [Act.put, List.setIfInBounds_toArray, List.set_cons_zero, List.set_cons_succ])
          clear RA_u125 RX_u125 RY_u125 HO_u125 BT_u125
          refine wpAnyH_take (i := 7) (oi := { dst := some 58, op := Op.move (Operand.tmp 65), type := 34, pos := "law.go:85", after := #[{ on := 6, ground := Ground.data }], guard := none }) (v := ?_) rfl (by kernel_rfl) (by kernel_rfl) (by kernel_rfl) (fun _ _ _ h => h) (Or.inl ⟨by rfl, ?_⟩) hHeld ?_
          rotate_left
          · intro W hSw
            clear hSw
            first | (go_simp; done) | (go_simp; with_reducible rfl)
          (try simp only [Act.put, List.setIfInBounds_toArray, List.set_cons_zero, List.set_cons_succ])
          refine wpAnyH_take (i := 8) (oi := { dst := some 66, op := Op.extract (Operand.tmp 58) 0, type := 25, pos := "law.go:85", after := #[{ on := 7, ground := Ground.data }], guard := none }) (v := ?_) rfl (by kernel_rfl) (by kernel_rfl) (by kernel_rfl) (fun _ _ _ h => h) (Or.inl ⟨by rfl, ?_⟩) hHeld ?_
          rotate_left
          · intro W hSw
            clear hSw
            first | (go_simp; done) | (go_simp; with_reducible rfl)
          (try simp only [Act.put, List.setIfInBounds_toArray, List.set_cons_zero, List.set_cons_succ])
          refine wpAnyH_take (i := 9) (oi := { dst := some 67, op := Op.extract (Operand.tmp 58) 1, type := 3, pos := "law.go:85", after := #[{ on := 7, ground := Ground.data }, { on := 11, ground := Ground.gcOnly Departure.lateStores }], guard := none }) (v := ?_) rfl (by kernel_rfl) (by kernel_rfl) (by kernel_rfl) (fun _ _ _ h => h) (Or.inl ⟨by rfl, ?_⟩) hHeld ?_
          rotate_left
          · intro W hSw
            clear hSw
            first | (go_simp; done) | (go_simp; with_reducible rfl)
          (try simp only [Act.put, List.setIfInBounds_toArray, List.set_cons_zero, List.set_cons_succ])
          refine wpAnyH_ready (rs := [11]) (by kernel_rfl) (by simp) ?_
          refine AllReadyH.cons (o := { dst := none, op := Op.store 25 (Operand.tmp 11) (Operand.tmp 66), type := 0, pos := "law.go:85", after := #[{ on := 10, ground := Ground.data }, { on := 8, ground := Ground.data }, { on := 6, ground := Ground.chain }, { on := 0, ground := Ground.phase }, { on := 1, ground := Ground.phase }, { on := 2, ground := Ground.phase }, { on := 3, ground := Ground.phase }, { on := 4, ground := Ground.phase }, { on := 5, ground := Ground.phase }, { on := 6, ground := Ground.phase }, { on := 7, ground := Ground.phase }, { on := 8, ground := Ground.phase }, { on := 9, ground := Ground.textOnly Departure.lateStores }, { on := 10, ground := Ground.phase }], guard := none }) rfl (fun K hK => ?_) AllReadyH.nil
          rw [if_pos (by rfl)]
          refine wp_store_row 25 (.tmp 11) (.tmp 66) rfl Yb fc rfl rfl 25 _ RY_u126.out (by rw [HZ_fc.out]; exact i12) (by rw [HZ_fc.out]; rfl) H1_fc.out ?_
          clear hHeld
          have RA_f : Hid (Rw (u126.setRow Yb fc) w.heap.size cs 25) := Lib.hid ((setRow_block _ _ _ _ (Nat.ne_of_lt HYB.out.2.1)).trans RA_u126.out)
          have RX_f : Hid (Rw (u126.setRow Yb fc) X xc 25) := Lib.hid ((setRow_block _ _ _ _ (Nat.ne_of_lt HYB.out.2.2)).trans RX_u126.out)
          have RY_f : Hid (Rw (u126.setRow Yb fc) Yb fc 25) := Lib.hid (RY_u126.out.set fc)
          have BT_f : Hid (Below w.heap.size w (u126.setRow Yb fc)) := Lib.hid (below_setRow BT_u126.out HYB.out.1 fc)
          refine hK.out _ _ ?_ (fun hHeld => ?_)
          · exact ⟨RA_f.out, RX_f.out, trivial⟩
          clear hK K
          (try simp only [Act.put])
          refine wpAnyH_take (i := 12) (oi := { dst := some 12, op := Op.assign (Operand.tmp 67), type := 3, pos := "law.go:85", after := #[{ on := 9, ground := Ground.data }, { on := 11, ground := Ground.chain }, { on := 0, ground := Ground.phase }, { on := 1, ground := Ground.phase }, { on := 2, ground := Ground.phase }, { on := 3, ground := Ground.phase }, { on := 4, ground := Ground.phase }, { on := 5, ground := Ground.phase }, { on := 6, ground := Ground.phase }, { on := 7, ground := Ground.phase }, { on := 8, ground := Ground.phase }, { on := 9, ground := Ground.phase }, { on := 10, ground := Ground.phase }, { on := 11, ground := Ground.phase }], guard := none }) (v := ?_) rfl (by kernel_rfl) (by kernel_rfl) (by kernel_rfl) (fun _ _ _ h => h) (Or.inl ⟨by rfl, ?_⟩) hHeld ?_
          rotate_left
          · intro W hSw
            clear hSw
            first | (go_simp; done) | (go_simp; with_reducible rfl)
          (try simp only [Act.put, List.setIfInBounds_toArray, List.set_cons_zero, List.set_cons_succ])
          refine wpAnyH_done (by kernel_rfl) ?_ _
          go_wp2
          go_meet
          case rel => exact ⟨Yb, rfl, rfl, RA_f.out, RX_f.out, RY_f.out, BT_f.out⟩
      case rest =>
        obtain ⟨F, rfl, rfl, h0, h1, h2, h3⟩ := hcut
        clear R_A_5 R_X_5 BT5
        have R_A_6 := Lib.hid h0
        have R_X_6 := Lib.hid h1
        have R_F_6 := Lib.hid h2
        have BT6 := Lib.hid h3
        clear h0 h1 h2 h3
        clear C10 et
        go_upto_region 11 with (fail)
        refine name_w (fun W => Rw W w.heap.size cs 25 ∧ Rw W X xc 25 ∧ Rw W F fc 25 ∧ Below w.heap.size w W) ⟨R_A_6.out, R_X_6.out, R_F_6.out, BT6.out⟩ ?_
        clear R_A_6 R_X_6 R_F_6 BT6
        rintro u7 ⟨h0, h1, h2, h3⟩
        have R_A_7 := Lib.hid h0
        have R_X_7 := Lib.hid h1
        have R_F_7 := Lib.hid h2
        have BT7 := Lib.hid h3
        clear h0 h1 h2 h3
        by_cases hka : FN < at_
        case pos =>
          have f1 : decide (FN < at_) = true := by simpa using hka
          have e := HLW.out (by rw [← HF2.out]; have h1 := HFN.out; have h2 := HAA.out; omega)
          have f2 : (XN == FN) = true := by rw [HXN.out, HFN.out, e]; simp
          obtain rfl : xc = fc := by rw [HE_xc.out, HE_fc.out, e]
          clear e hka
          go_upto_region 12 with (fail)
          clear f1
          go_wp2_with (first | (refine wpList_load_any (by rfl) 25 (.tmp 9) rfl X rfl 25 xc (0, 0) _ R_X_7.out Try.underlying25 rfl (by rw [HZ_xc.out]; exact i12) ?_) | (refine wpList_load_any (by rfl) 25 (.tmp 11) rfl F rfl 25 xc (0, 0) _ R_F_7.out Try.underlying25 rfl (by rw [HZ_xc.out]; exact i12) ?_))
          go_ret
          exact ⟨rfl, BT7.out⟩
        have f1 : decide (FN < at_) = false := by simpa using hka
        have HQ : Hid ((runS s (rs.take a)).2 = a) := Lib.hid (by rw [← HF2.out]; have h1 := HFN.out; have h2 := HAA.out; have h3 := HFL.out; omega)
        have e := HHG.out HQ.out
        have C14 := Lib.hid (C14.out HQ.out)
        have HXY : Hid (XN = at_ + YN) := Lib.hid (by rw [HXN.out, HAA.out, HYN.out, e]; unfold addN; simp only; omega)
        obtain rfl : xc = yc := by rw [HE_xc.out, HE_yc.out, e]; rfl
        clear e hka
        go_upto_region 13 with (fail)
        clear f1
        clear R_A_7
        refine name_w (fun W => Rw W X xc 25 ∧ Rw W F fc 25 ∧ Below w.heap.size w W) ⟨R_X_7.out, R_F_7.out, BT7.out⟩ ?_
        clear R_X_7 R_F_7 BT7
        rintro u8 ⟨h0, h1, h2⟩
        have R_X_8 := Lib.hid h0
        have R_F_8 := Lib.hid h1
        have BT8 := Lib.hid h2
        clear h0 h1 h2
        go_cut [13, 14] from 79 (fun sY sN W => ∃ Yb, sY = .pointer (some ⟨Yb, 0, none⟩) ∧ sN = .int .i64 YN ∧ Rw W X xc 25 ∧ Rw W F fc 25 ∧ Rw W Yb xc 25 ∧ Below w.heap.size w W)
        case first =>
          have RX_u8 := R_X_8
          have RF_u8 := R_F_8
          have BT_u8 := BT8
          refine wp_region_held_drew (S := fun W => Rw W X xc 25 ∧ Rw W F fc 25 ∧ True) (by kernel_rfl) ⟨RX_u8.out, RF_u8.out, trivial⟩ (fun hHeld => ?_)
          refine wpAnyH_take (i := 0) (oi := { dst := some 80, op := Op.load 25 (Operand.tmp 11), type := 25, pos := "law.go:89", after := #[], guard := none }) (v := .agg fc) rfl (by kernel_rfl) (by kernel_rfl) (by kernel_rfl) (fun _ _ _ h => h) (Or.inl ⟨by rfl, fun W hS => exec_load_row 25 (.tmp 11) rfl F rfl 25 fc (0, 0) _ hS.2.1 Try.underlying25 rfl (by rw [HZ_fc.out]; exact i12)⟩) hHeld ?_
          (try simp only [Act.put, List.setIfInBounds_toArray, List.set_cons_zero, List.set_cons_succ])
          refine wpAnyH_take (i := 2) (oi := { dst := some 82, op := Op.move (Operand.tmp 1), type := 33, pos := "law.go:89", after := #[], guard := none }) (v := ?_) rfl (by kernel_rfl) (by kernel_rfl) (by kernel_rfl) (fun _ _ _ h => h) (Or.inl ⟨by rfl, ?_⟩) hHeld ?_
          rotate_left
          · intro W hSw
            clear hSw
            first | (go_simp; done) | (go_simp; with_reducible rfl)
          (try simp only [Act.put, List.setIfInBounds_toArray, List.set_cons_zero, List.set_cons_succ])
          refine wpAnyH_take (i := 3) (oi := { dst := some 83, op := Op.move (Operand.tmp 2), type := 3, pos := "law.go:89", after := #[], guard := none }) (v := ?_) rfl (by kernel_rfl) (by kernel_rfl) (by kernel_rfl) (fun _ _ _ h => h) (Or.inl ⟨by rfl, ?_⟩) hHeld ?_
          rotate_left
          · intro W hSw
            clear hSw
            first | (go_simp; done) | (go_simp; with_reducible rfl)
          (try simp only [Act.put, List.setIfInBounds_toArray, List.set_cons_zero, List.set_cons_succ])
          refine wpAnyH_take (i := 4) (oi := { dst := some 84, op := Op.slice 33 (Operand.tmp 82) (some (Operand.tmp 83)) none none, type := 33, pos := "law.go:89", after := #[{ on := 2, ground := Ground.data }, { on := 3, ground := Ground.data }], guard := none }) (v := ?_) rfl (by kernel_rfl) (by kernel_rfl) (by kernel_rfl) (fun _ _ _ h => h) (Or.inl ⟨by rfl, ?_⟩) hHeld ?_
          rotate_left
          · intro W hSw
            clear hSw
            first | (go_simp; done) | (go_simp; with_reducible rfl)
          (try simp only [Act.put, List.setIfInBounds_toArray, List.set_cons_zero, List.set_cons_succ])
          refine wpAnyH_ready (rs := [1, 10]) (by kernel_rfl) (by simp) ?_
          refine AllReadyH.cons (o := { dst := some 81, op := Op.buildSlice 33 0 #[], type := 33, pos := "law.go:89", after := #[], guard := none }) rfl (fun K hK => ?_) (AllReadyH.cons (o := { dst := some 13, op := Op.alloc 25, type := 0, pos := "law.go:89", after := #[], guard := none }) rfl (fun K hK => ?_) AllReadyH.nil)
          · go_simp
            refine hK.out _ _ ?_ (fun hHeld => ?_)
            · exact ⟨Rw.alloc RX_u8.out _, Rw.alloc RF_u8.out _, trivial⟩
            clear hK K hHeld
            (try simp only [Act.put, List.setIfInBounds_toArray, List.set_cons_zero, List.set_cons_succ])
            (try rw [show u8.drew.heap.size = u8.heap.size from rfl])
            obtain ⟨Eb, hEb⟩ : ∃ X, X = u8.heap.size := ⟨_, rfl⟩
            rw [← hEb]
            have HEB : Hid (w.heap.size ≤ Eb ∧ X < Eb ∧ F < Eb) := Lib.hid (by rw [hEb]; exact ⟨BT_u8.out.size, RX_u8.out.lt, RF_u8.out.lt⟩)
            refine name_h (fun W => Rw W X xc 25 ∧ Rw W F fc 25 ∧ W.ownsRow w.heap.size 27 19 (.slice (some ⟨Eb, 0, none⟩) 0 0) ([] : List Rc).length (flat ([] : List Rc)) ∧ Below w.heap.size w W ∧ Eb < W.heap.size) ⟨Rw.alloc RX_u8.out _, Rw.alloc RF_u8.out _, by rw [hEb]; exact own0 _ (hb := BT_u8.out.size), Below.alloc (below_drew BT_u8.out) BT_u8.out.size _, by rw [hEb]; simp⟩ ?_
            clear hEb
            clear RX_u8 RF_u8 BT_u8
            rintro u127 ⟨h0, h1, h2, h3, h4⟩
            have HEL := Lib.hid h4
            clear h4
            have RX_u127 := Lib.hid h0
            have RF_u127 := Lib.hid h1
            have HO_u127 := Lib.hid h2
            have BT_u127 := Lib.hid h3
            have hHeld : Rw u127 X xc 25 ∧ Rw u127 F fc 25 ∧ True := ⟨RX_u127.out, RF_u127.out, trivial⟩
            clear h0 h1 h2 h3
            refine wpAnyH_ready (rs := [5, 10]) (by kernel_rfl) (by simp) ?_
            refine AllReadyH.cons (o := { dst := some 85, op := Op.call { callee := Callee.builtin Builtin.append, args := #[Operand.tmp 81, Operand.tmp 84], argTypes := #[33, 33] }, type := 33, pos := "law.go:89", after := #[{ on := 1, ground := Ground.data }, { on := 4, ground := Ground.data }], guard := none }) rfl (fun K hK => ?_) (AllReadyH.cons (o := { dst := some 13, op := Op.alloc 25, type := 0, pos := "law.go:89", after := #[], guard := none }) rfl (fun K hK => ?_) AllReadyH.nil)
            · obtain ⟨v2, u128, ea, hr2, hg2⟩ := append_recs HO_u127.out (HVD.out.under BT_u127.out (Nat.le_refl _)) BT_u127.out.size HN13.out
              rw [if_pos (by rfl)]
              refine wp_append_is (.tmp 81) (.tmp 84) 33 rfl rfl rfl ea ?_
              clear ea
              have kp : ∀ k, k < u127.heap.size → k ≠ Eb → u128.heap[k]? = u127.heap[k]? := fun k h1 h2 => hg2.block k h1 (by intro e; injection e with e; exact h2 e)
              have RX_u128 : Hid (Rw u128 X xc 25) := Lib.hid ((kp _ RX_u127.out.lt (Nat.ne_of_lt HEB.out.2.1)).trans RX_u127.out)
              have RF_u128 : Hid (Rw u128 F fc 25) := Lib.hid ((kp _ RF_u127.out.lt (Nat.ne_of_lt HEB.out.2.2)).trans RF_u127.out)
              have HO_u128 := Lib.hid hr2
              have BT_u128 : Hid (Below w.heap.size w u128) := Lib.hid (below_grown' BT_u127.out hg2 HEB.out.1 (Nat.le_refl _))
              clear hHeld kp hr2 hg2
              refine hK.out _ _ ?_ (fun hHeld => ?_)
              · exact ⟨RX_u128.out, RF_u128.out, trivial⟩
              clear hK K
              (try simp only [Act.put, List.setIfInBounds_toArray, List.set_cons_zero, List.set_cons_succ])
              clear RX_u127 RF_u127 HO_u127 BT_u127
              clear HEL
              clear HEB 
              refine wpAnyH_ready (rs := [6, 10]) (by kernel_rfl) (by simp) ?_
              refine AllReadyH.cons (o := { dst := some 86, op := Op.call { callee := Callee.value (Operand.func 16), args := #[Operand.tmp 80, Operand.tmp 85], argTypes := #[25, 33] }, type := 34, pos := "law.go:89", after := #[{ on := 0, ground := Ground.data }, { on := 5, ground := Ground.data }, { on := 5, ground := Ground.chain }], guard := none }) rfl (fun K hK => ?_) (AllReadyH.cons (o := { dst := some 13, op := Op.alloc 25, type := 0, pos := "law.go:89", after := #[], guard := none }) rfl (fun K hK => ?_) AllReadyH.nil)
              · go_simp
                refine (C13.out _ _ HO_u128.out).mono ?_
                rintro e u129 ⟨rfl, hb⟩
                have RX_u129 := Lib.hid (RX_u128.out.under hb RX_u128.out.lt)
                have RF_u129 := Lib.hid (RF_u128.out.under hb RF_u128.out.lt)
                have BT_u129 := Lib.hid (BT_u128.out.trans (hb.mono BT_u128.out.size))
                clear hb hHeld
                refine hK.out _ _ ?_ (fun hHeld => ?_)
                · exact ⟨RX_u129.out, RF_u129.out, trivial⟩
                clear hK K
                (try simp only [Act.put, List.setIfInBounds_toArray, List.set_cons_zero, List.set_cons_succ])
                clear RX_u128 RF_u128 HO_u128 BT_u128
                refine wpAnyH_take (i := 7) (oi := { dst := some 79, op := Op.move (Operand.tmp 86), type := 34, pos := "law.go:89", after := #[{ on := 6, ground := Ground.data }], guard := none }) (v := ?_) rfl (by kernel_rfl) (by kernel_rfl) (by kernel_rfl) (fun _ _ _ h => h) (Or.inl ⟨by rfl, ?_⟩) hHeld ?_
                rotate_left
                · intro W hSw
                  clear hSw
                  first | (go_simp; done) | (go_simp; with_reducible rfl)
                (try simp only [Act.put, List.setIfInBounds_toArray, List.set_cons_zero, List.set_cons_succ])
                refine wpAnyH_take (i := 8) (oi := { dst := some 87, op := Op.extract (Operand.tmp 79) 0, type := 25, pos := "law.go:89", after := #[{ on := 7, ground := Ground.data }], guard := none }) (v := ?_) rfl (by kernel_rfl) (by kernel_rfl) (by kernel_rfl) (fun _ _ _ h => h) (Or.inl ⟨by rfl, ?_⟩) hHeld ?_
                rotate_left
                · intro W hSw
                  clear hSw
                  first | (go_simp; done) | (go_simp; with_reducible rfl)
                (try simp only [Act.put, List.setIfInBounds_toArray, List.set_cons_zero, List.set_cons_succ])
                refine wpAnyH_take (i := 9) (oi := { dst := some 88, op := Op.extract (Operand.tmp 79) 1, type := 3, pos := "law.go:89", after := #[{ on := 7, ground := Ground.data }, { on := 11, ground := Ground.gcOnly Departure.lateStores }], guard := none }) (v := ?_) rfl (by kernel_rfl) (by kernel_rfl) (by kernel_rfl) (fun _ _ _ h => h) (Or.inl ⟨by rfl, ?_⟩) hHeld ?_
                rotate_left
                · intro W hSw
                  clear hSw
                  first | (go_simp; done) | (go_simp; with_reducible rfl)
                (try simp only [Act.put, List.setIfInBounds_toArray, List.set_cons_zero, List.set_cons_succ])
                refine wpAnyH_ready (rs := [10]) (by kernel_rfl) (by simp) ?_
                refine AllReadyH.cons (o := { dst := some 13, op := Op.alloc 25, type := 0, pos := "law.go:89", after := #[], guard := none }) rfl (fun K hK => ?_) AllReadyH.nil
                go_simp
                refine hK.out _ _ ?_ (fun hHeld => ?_)
                · exact ⟨Rw.alloc RX_u129.out _, Rw.alloc RF_u129.out _, trivial⟩
                clear hK K hHeld
                (try simp only [Act.put, List.setIfInBounds_toArray, List.set_cons_zero, List.set_cons_succ])
                obtain ⟨Yb, hYb⟩ : ∃ X, X = u129.heap.size := ⟨_, rfl⟩
                rw [← hYb]
                have HYB : Hid (w.heap.size ≤ Yb ∧ X < Yb ∧ F < Yb) := Lib.hid (by rw [hYb]; exact ⟨BT_u129.out.size, RX_u129.out.lt, RF_u129.out.lt⟩)
                refine name_h (fun W => Rw W X xc 25 ∧ Rw W F fc 25 ∧ Rw W Yb zeroSC 25 ∧ Below w.heap.size w W) ⟨Rw.alloc RX_u129.out _, Rw.alloc RF_u129.out _, by rw [hYb]; exact Rw.new _ _ _, Below.alloc BT_u129.out BT_u129.out.size _⟩ ?_
                clear hYb 
                clear RX_u129 RF_u129 BT_u129
                rintro u130 ⟨h0, h1, h2, h3⟩
                have RX_u130 := Lib.hid h0
                have RF_u130 := Lib.hid h1
                have RY_u130 := Lib.hid h2
                have BT_u130 := Lib.hid h3
                have hHeld : Rw u130 X xc 25 ∧ Rw u130 F fc 25 ∧ True := ⟨RX_u130.out, RF_u130.out, trivial⟩
                clear h0 h1 h2 h3
                refine wpAnyH_ready (rs := [11]) (by kernel_rfl) (by simp) ?_
                refine AllReadyH.cons (o := { dst := none, op := Op.store 25 (Operand.tmp 13) (Operand.tmp 87), type := 0, pos := "law.go:89", after := #[{ on := 10, ground := Ground.data }, { on := 8, ground := Ground.data }, { on := 6, ground := Ground.chain }, { on := 0, ground := Ground.phase }, { on := 1, ground := Ground.phase }, { on := 2, ground := Ground.phase }, { on := 3, ground := Ground.phase }, { on := 4, ground := Ground.phase }, { on := 5, ground := Ground.phase }, { on := 6, ground := Ground.phase }, { on := 7, ground := Ground.phase }, { on := 8, ground := Ground.phase }, { on := 9, ground := Ground.textOnly Departure.lateStores }, { on := 10, ground := Ground.phase }], guard := none }) rfl (fun K hK => ?_) AllReadyH.nil
                rw [if_pos (by rfl)]
                refine wp_store_row 25 (.tmp 13) (.tmp 87) rfl Yb xc rfl rfl 25 _ RY_u130.out (by rw [HZ_xc.out]; exact i12) (by rw [HZ_xc.out]; rfl) H1_xc.out ?_
                clear hHeld
                have RX_f : Hid (Rw (u130.setRow Yb xc) X xc 25) := Lib.hid ((setRow_block _ _ _ _ (Nat.ne_of_lt HYB.out.2.1)).trans RX_u130.out)
                have RF_f : Hid (Rw (u130.setRow Yb xc) F fc 25) := Lib.hid ((setRow_block _ _ _ _ (Nat.ne_of_lt HYB.out.2.2)).trans RF_u130.out)
                have RY_f : Hid (Rw (u130.setRow Yb xc) Yb xc 25) := Lib.hid (RY_u130.out.set xc)
                have BT_f : Hid (Below w.heap.size w (u130.setRow Yb xc)) := Lib.hid (below_setRow BT_u130.out HYB.out.1 xc)
                refine hK.out _ _ ?_ (fun hHeld => ?_)
                · exact ⟨RX_f.out, RF_f.out, trivial⟩
                clear hK K
                (try simp only [Act.put])
                refine wpAnyH_take (i := 12) (oi := { dst := some 14, op := Op.assign (Operand.tmp 88), type := 3, pos := "law.go:89", after := #[{ on := 9, ground := Ground.data }, { on := 11, ground := Ground.chain }, { on := 0, ground := Ground.phase }, { on := 1, ground := Ground.phase }, { on := 2, ground := Ground.phase }, { on := 3, ground := Ground.phase }, { on := 4, ground := Ground.phase }, { on := 5, ground := Ground.phase }, { on := 6, ground := Ground.phase }, { on := 7, ground := Ground.phase }, { on := 8, ground := Ground.phase }, { on := 9, ground := Ground.phase }, { on := 10, ground := Ground.phase }, { on := 11, ground := Ground.phase }], guard := none }) (v := ?_) rfl (by kernel_rfl) (by kernel_rfl) (by kernel_rfl) (fun _ _ _ h => h) (Or.inl ⟨by rfl, ?_⟩) hHeld ?_
                rotate_left
                · intro W hSw
                  clear hSw
                  first | (go_simp; done) | (go_simp; with_reducible rfl)
                (try simp only [Act.put, List.setIfInBounds_toArray, List.set_cons_zero, List.set_cons_succ])
                refine wpAnyH_done (by kernel_rfl) ?_ _
                go_wp2
                go_meet
                case rel => exact ⟨Yb, rfl, rfl, RX_f.out, RF_f.out, RY_f.out, BT_f.out⟩
              · go_simp
                refine hK.out _ _ ?_ (fun hHeld => ?_)
                · exact ⟨Rw.alloc RX_u128.out _, Rw.alloc RF_u128.out _, trivial⟩
                clear hK K hHeld
                (try simp only [Act.put, List.setIfInBounds_toArray, List.set_cons_zero, List.set_cons_succ])
                obtain ⟨Yb, hYb⟩ : ∃ X, X = u128.heap.size := ⟨_, rfl⟩
                rw [← hYb]
                have HYB : Hid (w.heap.size ≤ Yb ∧ X < Yb ∧ F < Yb) := Lib.hid (by rw [hYb]; exact ⟨BT_u128.out.size, RX_u128.out.lt, RF_u128.out.lt⟩)
                refine name_h (fun W => Rw W X xc 25 ∧ Rw W F fc 25 ∧ Rw W Yb zeroSC 25 ∧ Recs W v2 (([] : List Rc) ++ rs.drop a) ∧ Below w.heap.size w W) ⟨Rw.alloc RX_u128.out _, Rw.alloc RF_u128.out _, by rw [hYb]; exact Rw.new _ _ _, HO_u128.out.under ((Below.refl _ _).alloc (Nat.le_refl _) _) (Nat.le_refl _), Below.alloc BT_u128.out BT_u128.out.size _⟩ ?_
                clear hYb 
                clear RX_u128 RF_u128 HO_u128 BT_u128
                rintro u131 ⟨h0, h1, h2, h3, h4⟩
                have RX_u131 := Lib.hid h0
                have RF_u131 := Lib.hid h1
                have RY_u131 := Lib.hid h2
                have HO_u131 := Lib.hid h3
                have BT_u131 := Lib.hid h4
                have hHeld : Rw u131 X xc 25 ∧ Rw u131 F fc 25 ∧ True := ⟨RX_u131.out, RF_u131.out, trivial⟩
                clear h0 h1 h2 h3 h4
                refine wpAnyH_ready (rs := [6]) (by kernel_rfl) (by simp) ?_
                refine AllReadyH.cons (o := { dst := some 86, op := Op.call { callee := Callee.value (Operand.func 16), args := #[Operand.tmp 80, Operand.tmp 85], argTypes := #[25, 33] }, type := 34, pos := "law.go:89", after := #[{ on := 0, ground := Ground.data }, { on := 5, ground := Ground.data }, { on := 5, ground := Ground.chain }], guard := none }) rfl (fun K hK => ?_) AllReadyH.nil
                go_simp
                refine (C13.out _ _ HO_u131.out).mono ?_
                rintro e u132 ⟨rfl, hb⟩
                have RX_u132 := Lib.hid (RX_u131.out.under hb RX_u131.out.lt)
                have RF_u132 := Lib.hid (RF_u131.out.under hb RF_u131.out.lt)
                have RY_u132 := Lib.hid (RY_u131.out.under hb RY_u131.out.lt)
                have BT_u132 := Lib.hid (BT_u131.out.trans (hb.mono BT_u131.out.size))
                clear hb hHeld
                refine hK.out _ _ ?_ (fun hHeld => ?_)
                · exact ⟨RX_u132.out, RF_u132.out, trivial⟩
                clear hK K
                (try simp only [Act.put, List.setIfInBounds_toArray, List.set_cons_zero, List.set_cons_succ])
                clear RX_u131 RF_u131 RY_u131 HO_u131 BT_u131
                refine wpAnyH_take (i := 7) (oi := { dst := some 79, op := Op.move (Operand.tmp 86), type := 34, pos := "law.go:89", after := #[{ on := 6, ground := Ground.data }], guard := none }) (v := ?_) rfl (by kernel_rfl) (by kernel_rfl) (by kernel_rfl) (fun _ _ _ h => h) (Or.inl ⟨by rfl, ?_⟩) hHeld ?_
                rotate_left
                · intro W hSw
                  clear hSw
                  first | (go_simp; done) | (go_simp; with_reducible rfl)
                (try simp only [Act.put, List.setIfInBounds_toArray, List.set_cons_zero, List.set_cons_succ])
                refine wpAnyH_take (i := 8) (oi := { dst := some 87, op := Op.extract (Operand.tmp 79) 0, type := 25, pos := "law.go:89", after := #[{ on := 7, ground := Ground.data }], guard := none }) (v := ?_) rfl (by kernel_rfl) (by kernel_rfl) (by kernel_rfl) (fun _ _ _ h => h) (Or.inl ⟨by rfl, ?_⟩) hHeld ?_
                rotate_left
                · intro W hSw
                  clear hSw
                  first | (go_simp; done) | (go_simp; with_reducible rfl)
                (try simp only [Act.put, List.setIfInBounds_toArray, List.set_cons_zero, List.set_cons_succ])
                refine wpAnyH_take (i := 9) (oi := { dst := some 88, op := Op.extract (Operand.tmp 79) 1, type := 3, pos := "law.go:89", after := #[{ on := 7, ground := Ground.data }, { on := 11, ground := Ground.gcOnly Departure.lateStores }], guard := none }) (v := ?_) rfl (by kernel_rfl) (by kernel_rfl) (by kernel_rfl) (fun _ _ _ h => h) (Or.inl ⟨by rfl, ?_⟩) hHeld ?_
                rotate_left
                · intro W hSw
                  clear hSw
                  first | (go_simp; done) | (go_simp; with_reducible rfl)
                (try simp only [Act.put, List.setIfInBounds_toArray, List.set_cons_zero, List.set_cons_succ])
                refine wpAnyH_ready (rs := [11]) (by kernel_rfl) (by simp) ?_
                refine AllReadyH.cons (o := { dst := none, op := Op.store 25 (Operand.tmp 13) (Operand.tmp 87), type := 0, pos := "law.go:89", after := #[{ on := 10, ground := Ground.data }, { on := 8, ground := Ground.data }, { on := 6, ground := Ground.chain }, { on := 0, ground := Ground.phase }, { on := 1, ground := Ground.phase }, { on := 2, ground := Ground.phase }, { on := 3, ground := Ground.phase }, { on := 4, ground := Ground.phase }, { on := 5, ground := Ground.phase }, { on := 6, ground := Ground.phase }, { on := 7, ground := Ground.phase }, { on := 8, ground := Ground.phase }, { on := 9, ground := Ground.textOnly Departure.lateStores }, { on := 10, ground := Ground.phase }], guard := none }) rfl (fun K hK => ?_) AllReadyH.nil
                rw [if_pos (by rfl)]
                refine wp_store_row 25 (.tmp 13) (.tmp 87) rfl Yb xc rfl rfl 25 _ RY_u132.out (by rw [HZ_xc.out]; exact i12) (by rw [HZ_xc.out]; rfl) H1_xc.out ?_
                clear hHeld
                have RX_f : Hid (Rw (u132.setRow Yb xc) X xc 25) := Lib.hid ((setRow_block _ _ _ _ (Nat.ne_of_lt HYB.out.2.1)).trans RX_u132.out)
                have RF_f : Hid (Rw (u132.setRow Yb xc) F fc 25) := Lib.hid ((setRow_block _ _ _ _ (Nat.ne_of_lt HYB.out.2.2)).trans RF_u132.out)
                have RY_f : Hid (Rw (u132.setRow Yb xc) Yb xc 25) := Lib.hid (RY_u132.out.set xc)
                have BT_f : Hid (Below w.heap.size w (u132.setRow Yb xc)) := Lib.hid (below_setRow BT_u132.out HYB.out.1 xc)
                refine hK.out _ _ ?_ (fun hHeld => ?_)
                · exact ⟨RX_f.out, RF_f.out, trivial⟩
                clear hK K
                (try simp only [Act.put])
                refine wpAnyH_take (i := 12) (oi := { dst := some 14, op := Op.assign (Operand.tmp 88), type := 3, pos := "law.go:89", after := #[{ on := 9, ground := Ground.data }, { on := 11, ground := Ground.chain }, { on := 0, ground := Ground.phase }, { on := 1, ground := Ground.phase }, { on := 2, ground := Ground.phase }, { on := 3, ground := Ground.phase }, { on := 4, ground := Ground.phase }, { on := 5, ground := Ground.phase }, { on := 6, ground := Ground.phase }, { on := 7, ground := Ground.phase }, { on := 8, ground := Ground.phase }, { on := 9, ground := Ground.phase }, { on := 10, ground := Ground.phase }, { on := 11, ground := Ground.phase }], guard := none }) (v := ?_) rfl (by kernel_rfl) (by kernel_rfl) (by kernel_rfl) (fun _ _ _ h => h) (Or.inl ⟨by rfl, ?_⟩) hHeld ?_
                rotate_left
                · intro W hSw
                  clear hSw
                  first | (go_simp; done) | (go_simp; with_reducible rfl)
                (try simp only [Act.put, List.setIfInBounds_toArray, List.set_cons_zero, List.set_cons_succ])
                refine wpAnyH_done (by kernel_rfl) ?_ _
                go_wp2
                go_meet
                case rel => exact ⟨Yb, rfl, rfl, RX_f.out, RF_f.out, RY_f.out, BT_f.out⟩
            · go_simp
              refine hK.out _ _ ?_ (fun hHeld => ?_)
              · exact ⟨Rw.alloc RX_u127.out _, Rw.alloc RF_u127.out _, trivial⟩
              clear hK K hHeld
              (try simp only [Act.put, List.setIfInBounds_toArray, List.set_cons_zero, List.set_cons_succ])
              obtain ⟨Yb, hYb⟩ : ∃ X, X = u127.heap.size := ⟨_, rfl⟩
              rw [← hYb]
              have HYB : Hid (w.heap.size ≤ Yb ∧ X < Yb ∧ F < Yb) := Lib.hid (by rw [hYb]; exact ⟨BT_u127.out.size, RX_u127.out.lt, RF_u127.out.lt⟩)
              have HYE : Hid (Yb ≠ Eb) := Lib.hid (by rw [hYb]; exact Nat.ne_of_gt HEL.out)
              refine name_h (fun W => Rw W X xc 25 ∧ Rw W F fc 25 ∧ Rw W Yb zeroSC 25 ∧ W.ownsRow w.heap.size 27 19 (.slice (some ⟨Eb, 0, none⟩) 0 0) ([] : List Rc).length (flat ([] : List Rc)) ∧ Below w.heap.size w W) ⟨Rw.alloc RX_u127.out _, Rw.alloc RF_u127.out _, by rw [hYb]; exact Rw.new _ _ _, World.ownsRow.alloc HO_u127.out _, Below.alloc BT_u127.out BT_u127.out.size _⟩ ?_
              clear hYb HEL
              clear RX_u127 RF_u127 HO_u127 BT_u127
              rintro u133 ⟨h0, h1, h2, h3, h4⟩
              have RX_u133 := Lib.hid h0
              have RF_u133 := Lib.hid h1
              have RY_u133 := Lib.hid h2
              have HO_u133 := Lib.hid h3
              have BT_u133 := Lib.hid h4
              have hHeld : Rw u133 X xc 25 ∧ Rw u133 F fc 25 ∧ True := ⟨RX_u133.out, RF_u133.out, trivial⟩
              clear h0 h1 h2 h3 h4
              refine wpAnyH_ready (rs := [5]) (by kernel_rfl) (by simp) ?_
              refine AllReadyH.cons (o := { dst := some 85, op := Op.call { callee := Callee.builtin Builtin.append, args := #[Operand.tmp 81, Operand.tmp 84], argTypes := #[33, 33] }, type := 33, pos := "law.go:89", after := #[{ on := 1, ground := Ground.data }, { on := 4, ground := Ground.data }], guard := none }) rfl (fun K hK => ?_) AllReadyH.nil
              obtain ⟨v2, u134, ea, hr2, hg2⟩ := append_recs HO_u133.out (HVD.out.under BT_u133.out (Nat.le_refl _)) BT_u133.out.size HN13.out
              rw [if_pos (by rfl)]
              refine wp_append_is (.tmp 81) (.tmp 84) 33 rfl rfl rfl ea ?_
              clear ea
              have kp : ∀ k, k < u133.heap.size → k ≠ Eb → u134.heap[k]? = u133.heap[k]? := fun k h1 h2 => hg2.block k h1 (by intro e; injection e with e; exact h2 e)
              have RX_u134 : Hid (Rw u134 X xc 25) := Lib.hid ((kp _ RX_u133.out.lt (Nat.ne_of_lt HEB.out.2.1)).trans RX_u133.out)
              have RF_u134 : Hid (Rw u134 F fc 25) := Lib.hid ((kp _ RF_u133.out.lt (Nat.ne_of_lt HEB.out.2.2)).trans RF_u133.out)
              have RY_u134 : Hid (Rw u134 Yb zeroSC 25) := Lib.hid ((kp _ RY_u133.out.lt HYE.out).trans RY_u133.out)
              have HO_u134 := Lib.hid hr2
              have BT_u134 : Hid (Below w.heap.size w u134) := Lib.hid (below_grown' BT_u133.out hg2 HEB.out.1 (Nat.le_refl _))
              clear hHeld kp hr2 hg2
              refine hK.out _ _ ?_ (fun hHeld => ?_)
              · exact ⟨RX_u134.out, RF_u134.out, trivial⟩
              clear hK K
              (try simp only [Act.put, List.setIfInBounds_toArray, List.set_cons_zero, List.set_cons_succ])
              clear RX_u133 RF_u133 RY_u133 HO_u133 BT_u133
              clear HEB HYE
              refine wpAnyH_ready (rs := [6]) (by kernel_rfl) (by simp) ?_
              refine AllReadyH.cons (o := { dst := some 86, op := Op.call { callee := Callee.value (Operand.func 16), args := #[Operand.tmp 80, Operand.tmp 85], argTypes := #[25, 33] }, type := 34, pos := "law.go:89", after := #[{ on := 0, ground := Ground.data }, { on := 5, ground := Ground.data }, { on := 5, ground := Ground.chain }], guard := none }) rfl (fun K hK => ?_) AllReadyH.nil
              go_simp
              refine (C13.out _ _ HO_u134.out).mono ?_
              rintro e u135 ⟨rfl, hb⟩
              have RX_u135 := Lib.hid (RX_u134.out.under hb RX_u134.out.lt)
              have RF_u135 := Lib.hid (RF_u134.out.under hb RF_u134.out.lt)
              have RY_u135 := Lib.hid (RY_u134.out.under hb RY_u134.out.lt)
              have BT_u135 := Lib.hid (BT_u134.out.trans (hb.mono BT_u134.out.size))
              clear hb hHeld
              refine hK.out _ _ ?_ (fun hHeld => ?_)
              · exact ⟨RX_u135.out, RF_u135.out, trivial⟩
              clear hK K
              (try simp only [Act.put, List.setIfInBounds_toArray, List.set_cons_zero, List.set_cons_succ])
              clear RX_u134 RF_u134 RY_u134 HO_u134 BT_u134
              refine wpAnyH_take (i := 7) (oi := { dst := some 79, op := Op.move (Operand.tmp 86), type := 34, pos := "law.go:89", after := #[{ on := 6, ground := Ground.data }], guard := none }) (v := ?_) rfl (by kernel_rfl) (by kernel_rfl) (by kernel_rfl) (fun _ _ _ h => h) (Or.inl ⟨by rfl, ?_⟩) hHeld ?_
              rotate_left
              · intro W hSw
                clear hSw
                first | (go_simp; done) | (go_simp; with_reducible rfl)
              (try simp only [Act.put, List.setIfInBounds_toArray, List.set_cons_zero, List.set_cons_succ])
              refine wpAnyH_take (i := 8) (oi := { dst := some 87, op := Op.extract (Operand.tmp 79) 0, type := 25, pos := "law.go:89", after := #[{ on := 7, ground := Ground.data }], guard := none }) (v := ?_) rfl (by kernel_rfl) (by kernel_rfl) (by kernel_rfl) (fun _ _ _ h => h) (Or.inl ⟨by rfl, ?_⟩) hHeld ?_
              rotate_left
              · intro W hSw
                clear hSw
                first | (go_simp; done) | (go_simp; with_reducible rfl)
              (try simp only [Act.put, List.setIfInBounds_toArray, List.set_cons_zero, List.set_cons_succ])
              refine wpAnyH_take (i := 9) (oi := { dst := some 88, op := Op.extract (Operand.tmp 79) 1, type := 3, pos := "law.go:89", after := #[{ on := 7, ground := Ground.data }, { on := 11, ground := Ground.gcOnly Departure.lateStores }], guard := none }) (v := ?_) rfl (by kernel_rfl) (by kernel_rfl) (by kernel_rfl) (fun _ _ _ h => h) (Or.inl ⟨by rfl, ?_⟩) hHeld ?_
              rotate_left
              · intro W hSw
                clear hSw
                first | (go_simp; done) | (go_simp; with_reducible rfl)
              (try simp only [Act.put, List.setIfInBounds_toArray, List.set_cons_zero, List.set_cons_succ])
              refine wpAnyH_ready (rs := [11]) (by kernel_rfl) (by simp) ?_
              refine AllReadyH.cons (o := { dst := none, op := Op.store 25 (Operand.tmp 13) (Operand.tmp 87), type := 0, pos := "law.go:89", after := #[{ on := 10, ground := Ground.data }, { on := 8, ground := Ground.data }, { on := 6, ground := Ground.chain }, { on := 0, ground := Ground.phase }, { on := 1, ground := Ground.phase }, { on := 2, ground := Ground.phase }, { on := 3, ground := Ground.phase }, { on := 4, ground := Ground.phase }, { on := 5, ground := Ground.phase }, { on := 6, ground := Ground.phase }, { on := 7, ground := Ground.phase }, { on := 8, ground := Ground.phase }, { on := 9, ground := Ground.textOnly Departure.lateStores }, { on := 10, ground := Ground.phase }], guard := none }) rfl (fun K hK => ?_) AllReadyH.nil
              rw [if_pos (by rfl)]
              refine wp_store_row 25 (.tmp 13) (.tmp 87) rfl Yb xc rfl rfl 25 _ RY_u135.out (by rw [HZ_xc.out]; exact i12) (by rw [HZ_xc.out]; rfl) H1_xc.out ?_
              clear hHeld
              have RX_f : Hid (Rw (u135.setRow Yb xc) X xc 25) := Lib.hid ((setRow_block _ _ _ _ (Nat.ne_of_lt HYB.out.2.1)).trans RX_u135.out)
              have RF_f : Hid (Rw (u135.setRow Yb xc) F fc 25) := Lib.hid ((setRow_block _ _ _ _ (Nat.ne_of_lt HYB.out.2.2)).trans RF_u135.out)
              have RY_f : Hid (Rw (u135.setRow Yb xc) Yb xc 25) := Lib.hid (RY_u135.out.set xc)
              have BT_f : Hid (Below w.heap.size w (u135.setRow Yb xc)) := Lib.hid (below_setRow BT_u135.out HYB.out.1 xc)
              refine hK.out _ _ ?_ (fun hHeld => ?_)
              · exact ⟨RX_f.out, RF_f.out, trivial⟩
              clear hK K
              (try simp only [Act.put])
              refine wpAnyH_take (i := 12) (oi := { dst := some 14, op := Op.assign (Operand.tmp 88), type := 3, pos := "law.go:89", after := #[{ on := 9, ground := Ground.data }, { on := 11, ground := Ground.chain }, { on := 0, ground := Ground.phase }, { on := 1, ground := Ground.phase }, { on := 2, ground := Ground.phase }, { on := 3, ground := Ground.phase }, { on := 4, ground := Ground.phase }, { on := 5, ground := Ground.phase }, { on := 6, ground := Ground.phase }, { on := 7, ground := Ground.phase }, { on := 8, ground := Ground.phase }, { on := 9, ground := Ground.phase }, { on := 10, ground := Ground.phase }, { on := 11, ground := Ground.phase }], guard := none }) (v := ?_) rfl (by kernel_rfl) (by kernel_rfl) (by kernel_rfl) (fun _ _ _ h => h) (Or.inl ⟨by rfl, ?_⟩) hHeld ?_
              rotate_left
              · intro W hSw
                clear hSw
                first | (go_simp; done) | (go_simp; with_reducible rfl)
              (try simp only [Act.put, List.setIfInBounds_toArray, List.set_cons_zero, List.set_cons_succ])
              refine wpAnyH_done (by kernel_rfl) ?_ _
              go_wp2
              go_meet
              case rel => exact ⟨Yb, rfl, rfl, RX_f.out, RF_f.out, RY_f.out, BT_f.out⟩
          · go_simp
            refine hK.out _ _ ?_ (fun hHeld => ?_)
            · exact ⟨Rw.alloc RX_u8.out _, Rw.alloc RF_u8.out _, trivial⟩
            clear hK K hHeld
            (try simp only [Act.put, List.setIfInBounds_toArray, List.set_cons_zero, List.set_cons_succ])
            obtain ⟨Yb, hYb⟩ : ∃ X, X = u8.heap.size := ⟨_, rfl⟩
            rw [← hYb]
            have HYB : Hid (w.heap.size ≤ Yb ∧ X < Yb ∧ F < Yb) := Lib.hid (by rw [hYb]; exact ⟨BT_u8.out.size, RX_u8.out.lt, RF_u8.out.lt⟩)
            refine name_h (fun W => Rw W X xc 25 ∧ Rw W F fc 25 ∧ Rw W Yb zeroSC 25 ∧ Below w.heap.size w W) ⟨Rw.alloc RX_u8.out _, Rw.alloc RF_u8.out _, by rw [hYb]; exact Rw.new _ _ _, Below.alloc (below_drew BT_u8.out) BT_u8.out.size _⟩ ?_
            clear hYb 
            clear RX_u8 RF_u8 BT_u8
            rintro u136 ⟨h0, h1, h2, h3⟩
            have RX_u136 := Lib.hid h0
            have RF_u136 := Lib.hid h1
            have RY_u136 := Lib.hid h2
            have BT_u136 := Lib.hid h3
            have hHeld : Rw u136 X xc 25 ∧ Rw u136 F fc 25 ∧ True := ⟨RX_u136.out, RF_u136.out, trivial⟩
            clear h0 h1 h2 h3
            refine wpAnyH_ready (rs := [1]) (by kernel_rfl) (by simp) ?_
            refine AllReadyH.cons (o := { dst := some 81, op := Op.buildSlice 33 0 #[], type := 33, pos := "law.go:89", after := #[], guard := none }) rfl (fun K hK => ?_) AllReadyH.nil
            go_simp
            refine hK.out _ _ ?_ (fun hHeld => ?_)
            · exact ⟨Rw.alloc RX_u136.out _, Rw.alloc RF_u136.out _, trivial⟩
            clear hK K hHeld
            (try simp only [Act.put, List.setIfInBounds_toArray, List.set_cons_zero, List.set_cons_succ])
            (try skip)
            obtain ⟨Eb, hEb⟩ : ∃ X, X = u136.heap.size := ⟨_, rfl⟩
            rw [← hEb]
            have HEB : Hid (w.heap.size ≤ Eb ∧ X < Eb ∧ F < Eb) := Lib.hid (by rw [hEb]; exact ⟨BT_u136.out.size, RX_u136.out.lt, RF_u136.out.lt⟩)
            have HYE : Hid (Yb ≠ Eb) := Lib.hid (by rw [hEb]; exact Nat.ne_of_lt RY_u136.out.lt)
            refine name_h (fun W => Rw W X xc 25 ∧ Rw W F fc 25 ∧ Rw W Yb zeroSC 25 ∧ W.ownsRow w.heap.size 27 19 (.slice (some ⟨Eb, 0, none⟩) 0 0) ([] : List Rc).length (flat ([] : List Rc)) ∧ Below w.heap.size w W ∧ Eb < W.heap.size) ⟨Rw.alloc RX_u136.out _, Rw.alloc RF_u136.out _, Rw.alloc RY_u136.out _, by rw [hEb]; exact own0 _ (hb := BT_u136.out.size), Below.alloc BT_u136.out BT_u136.out.size _, by rw [hEb]; simp⟩ ?_
            clear hEb
            clear RX_u136 RF_u136 RY_u136 BT_u136
            rintro u137 ⟨h0, h1, h2, h3, h4, h5⟩
            have HEL := Lib.hid h5
            clear h5
            have RX_u137 := Lib.hid h0
            have RF_u137 := Lib.hid h1
            have RY_u137 := Lib.hid h2
            have HO_u137 := Lib.hid h3
            have BT_u137 := Lib.hid h4
            have hHeld : Rw u137 X xc 25 ∧ Rw u137 F fc 25 ∧ True := ⟨RX_u137.out, RF_u137.out, trivial⟩
            clear h0 h1 h2 h3 h4
            clear HEL
            refine wpAnyH_ready (rs := [5]) (by kernel_rfl) (by simp) ?_
            refine AllReadyH.cons (o := { dst := some 85, op := Op.call { callee := Callee.builtin Builtin.append, args := #[Operand.tmp 81, Operand.tmp 84], argTypes := #[33, 33] }, type := 33, pos := "law.go:89", after := #[{ on := 1, ground := Ground.data }, { on := 4, ground := Ground.data }], guard := none }) rfl (fun K hK => ?_) AllReadyH.nil
            obtain ⟨v2, u138, ea, hr2, hg2⟩ := append_recs HO_u137.out (HVD.out.under BT_u137.out (Nat.le_refl _)) BT_u137.out.size HN13.out
            rw [if_pos (by rfl)]
            refine wp_append_is (.tmp 81) (.tmp 84) 33 rfl rfl rfl ea ?_
            clear ea
            have kp : ∀ k, k < u137.heap.size → k ≠ Eb → u138.heap[k]? = u137.heap[k]? := fun k h1 h2 => hg2.block k h1 (by intro e; injection e with e; exact h2 e)
            have RX_u138 : Hid (Rw u138 X xc 25) := Lib.hid ((kp _ RX_u137.out.lt (Nat.ne_of_lt HEB.out.2.1)).trans RX_u137.out)
            have RF_u138 : Hid (Rw u138 F fc 25) := Lib.hid ((kp _ RF_u137.out.lt (Nat.ne_of_lt HEB.out.2.2)).trans RF_u137.out)
            have RY_u138 : Hid (Rw u138 Yb zeroSC 25) := Lib.hid ((kp _ RY_u137.out.lt HYE.out).trans RY_u137.out)
            have HO_u138 := Lib.hid hr2
            have BT_u138 : Hid (Below w.heap.size w u138) := Lib.hid (below_grown' BT_u137.out hg2 HEB.out.1 (Nat.le_refl _))
            clear hHeld kp hr2 hg2
            refine hK.out _ _ ?_ (fun hHeld => ?_)
            · exact ⟨RX_u138.out, RF_u138.out, trivial⟩
            clear hK K
            (try simp only [Act.put, List.setIfInBounds_toArray, List.set_cons_zero, List.set_cons_succ])
            clear RX_u137 RF_u137 RY_u137 HO_u137 BT_u137
            clear HEB HYE
            refine wpAnyH_ready (rs := [6]) (by kernel_rfl) (by simp) ?_
            refine AllReadyH.cons (o := { dst := some 86, op := Op.call { callee := Callee.value (Operand.func 16), args := #[Operand.tmp 80, Operand.tmp 85], argTypes := #[25, 33] }, type := 34, pos := "law.go:89", after := #[{ on := 0, ground := Ground.data }, { on := 5, ground := Ground.data }, { on := 5, ground := Ground.chain }], guard := none }) rfl (fun K hK => ?_) AllReadyH.nil
            go_simp
            refine (C13.out _ _ HO_u138.out).mono ?_
            rintro e u139 ⟨rfl, hb⟩
            have RX_u139 := Lib.hid (RX_u138.out.under hb RX_u138.out.lt)
            have RF_u139 := Lib.hid (RF_u138.out.under hb RF_u138.out.lt)
            have RY_u139 := Lib.hid (RY_u138.out.under hb RY_u138.out.lt)
            have BT_u139 := Lib.hid (BT_u138.out.trans (hb.mono BT_u138.out.size))
            clear hb hHeld
            refine hK.out _ _ ?_ (fun hHeld => ?_)
            · exact ⟨RX_u139.out, RF_u139.out, trivial⟩
            clear hK K
            (try simp only [Act.put, List.setIfInBounds_toArray, List.set_cons_zero, List.set_cons_succ])
            clear RX_u138 RF_u138 RY_u138 HO_u138 BT_u138
            refine wpAnyH_take (i := 7) (oi := { dst := some 79, op := Op.move (Operand.tmp 86), type := 34, pos := "law.go:89", after := #[{ on := 6, ground := Ground.data }], guard := none }) (v := ?_) rfl (by kernel_rfl) (by kernel_rfl) (by kernel_rfl) (fun _ _ _ h => h) (Or.inl ⟨by rfl, ?_⟩) hHeld ?_
            rotate_left
            · intro W hSw
              clear hSw
              first | (go_simp; done) | (go_simp; with_reducible rfl)
            (try simp only [Act.put, List.setIfInBounds_toArray, List.set_cons_zero, List.set_cons_succ])
            refine wpAnyH_take (i := 8) (oi := { dst := some 87, op := Op.extract (Operand.tmp 79) 0, type := 25, pos := "law.go:89", after := #[{ on := 7, ground := Ground.data }], guard := none }) (v := ?_) rfl (by kernel_rfl) (by kernel_rfl) (by kernel_rfl) (fun _ _ _ h => h) (Or.inl ⟨by rfl, ?_⟩) hHeld ?_
            rotate_left
            · intro W hSw
              clear hSw
              first | (go_simp; done) | (go_simp; with_reducible rfl)
            (try simp only [Act.put, List.setIfInBounds_toArray, List.set_cons_zero, List.set_cons_succ])
            refine wpAnyH_take (i := 9) (oi := { dst := some 88, op := Op.extract (Operand.tmp 79) 1, type := 3, pos := "law.go:89", after := #[{ on := 7, ground := Ground.data }, { on := 11, ground := Ground.gcOnly Departure.lateStores }], guard := none }) (v := ?_) rfl (by kernel_rfl) (by kernel_rfl) (by kernel_rfl) (fun _ _ _ h => h) (Or.inl ⟨by rfl, ?_⟩) hHeld ?_
            rotate_left
            · intro W hSw
              clear hSw
              first | (go_simp; done) | (go_simp; with_reducible rfl)
            (try simp only [Act.put, List.setIfInBounds_toArray, List.set_cons_zero, List.set_cons_succ])
            refine wpAnyH_ready (rs := [11]) (by kernel_rfl) (by simp) ?_
            refine AllReadyH.cons (o := { dst := none, op := Op.store 25 (Operand.tmp 13) (Operand.tmp 87), type := 0, pos := "law.go:89", after := #[{ on := 10, ground := Ground.data }, { on := 8, ground := Ground.data }, { on := 6, ground := Ground.chain }, { on := 0, ground := Ground.phase }, { on := 1, ground := Ground.phase }, { on := 2, ground := Ground.phase }, { on := 3, ground := Ground.phase }, { on := 4, ground := Ground.phase }, { on := 5, ground := Ground.phase }, { on := 6, ground := Ground.phase }, { on := 7, ground := Ground.phase }, { on := 8, ground := Ground.phase }, { on := 9, ground := Ground.textOnly Departure.lateStores }, { on := 10, ground := Ground.phase }], guard := none }) rfl (fun K hK => ?_) AllReadyH.nil
            rw [if_pos (by rfl)]
            refine wp_store_row 25 (.tmp 13) (.tmp 87) rfl Yb xc rfl rfl 25 _ RY_u139.out (by rw [HZ_xc.out]; exact i12) (by rw [HZ_xc.out]; rfl) H1_xc.out ?_
            clear hHeld
            have RX_f : Hid (Rw (u139.setRow Yb xc) X xc 25) := Lib.hid ((setRow_block _ _ _ _ (Nat.ne_of_lt HYB.out.2.1)).trans RX_u139.out)
            have RF_f : Hid (Rw (u139.setRow Yb xc) F fc 25) := Lib.hid ((setRow_block _ _ _ _ (Nat.ne_of_lt HYB.out.2.2)).trans RF_u139.out)
            have RY_f : Hid (Rw (u139.setRow Yb xc) Yb xc 25) := Lib.hid (RY_u139.out.set xc)
            have BT_f : Hid (Below w.heap.size w (u139.setRow Yb xc)) := Lib.hid (below_setRow BT_u139.out HYB.out.1 xc)
            refine hK.out _ _ ?_ (fun hHeld => ?_)
            · exact ⟨RX_f.out, RF_f.out, trivial⟩
            clear hK K
            (try simp only [Act.put])
            refine wpAnyH_take (i := 12) (oi := { dst := some 14, op := Op.assign (Operand.tmp 88), type := 3, pos := "law.go:89", after := #[{ on := 9, ground := Ground.data }, { on := 11, ground := Ground.chain }, { on := 0, ground := Ground.phase }, { on := 1, ground := Ground.phase }, { on := 2, ground := Ground.phase }, { on := 3, ground := Ground.phase }, { on := 4, ground := Ground.phase }, { on := 5, ground := Ground.phase }, { on := 6, ground := Ground.phase }, { on := 7, ground := Ground.phase }, { on := 8, ground := Ground.phase }, { on := 9, ground := Ground.phase }, { on := 10, ground := Ground.phase }, { on := 11, ground := Ground.phase }], guard := none }) (v := ?_) rfl (by kernel_rfl) (by kernel_rfl) (by kernel_rfl) (fun _ _ _ h => h) (Or.inl ⟨by rfl, ?_⟩) hHeld ?_
            rotate_left
            · intro W hSw
              clear hSw
              first | (go_simp; done) | (go_simp; with_reducible rfl)
            (try simp only [Act.put, List.setIfInBounds_toArray, List.set_cons_zero, List.set_cons_succ])
            refine wpAnyH_done (by kernel_rfl) ?_ _
            go_wp2
            go_meet
            case rel => exact ⟨Yb, rfl, rfl, RX_f.out, RF_f.out, RY_f.out, BT_f.out⟩
        case rest =>
          obtain ⟨S, rfl, rfl, h0, h1, h2, h3⟩ := hcut
          clear R_X_8 R_F_8 BT8
          have R_X_9 := Lib.hid h0
          have R_F_9 := Lib.hid h1
          have R_S_9 := Lib.hid h2
          have BT9 := Lib.hid h3
          clear h0 h1 h2 h3
          clear C13 bs0
          go_upto_region 14 with (fail)
          refine name_w (fun W => Rw W X xc 25 ∧ Rw W F fc 25 ∧ Rw W S xc 25 ∧ Below w.heap.size w W) ⟨R_X_9.out, R_F_9.out, R_S_9.out, BT9.out⟩ ?_
          clear R_X_9 R_F_9 R_S_9 BT9
          rintro u10 ⟨h0, h1, h2, h3⟩
          have R_X_10 := Lib.hid h0
          have R_F_10 := Lib.hid h1
          have R_S_10 := Lib.hid h2
          have BT10 := Lib.hid h3
          clear h0 h1 h2 h3
          go_cut [15, 16] from 89 (fun sY sN W => ∃ Yb, sY = .pointer (some ⟨Yb, 0, none⟩) ∧ sN = .int .i64 AN ∧ Rw W X xc 25 ∧ Rw W F fc 25 ∧ Rw W S xc 25 ∧ Rw W Yb xc 25 ∧ Below w.heap.size w W)
          case first =>
            have RX_u10 := R_X_10
            have RF_u10 := R_F_10
            have RS_u10 := R_S_10
            have BT_u10 := BT10
            refine wp_region_held_drew (S := fun W => Rw W X xc 25 ∧ Rw W F fc 25 ∧ Rw W S xc 25 ∧ True) (by kernel_rfl) ⟨RX_u10.out, RF_u10.out, RS_u10.out, trivial⟩ (fun hHeld => ?_)
            refine wpAnyH_take (i := 0) (oi := { dst := some 90, op := Op.build 25 #[], type := 25, pos := "law.go:90", after := #[], guard := none }) (v := .agg zc) rfl (by kernel_rfl) (by kernel_rfl) (by kernel_rfl) (fun _ _ _ h => h) (Or.inl ⟨by rfl, fun W hS => exec_build_is 25 #[] rfl zc (by rw [HE_zc.out]; kernel_rfl)⟩) hHeld ?_
            (try simp only [Act.put, List.setIfInBounds_toArray, List.set_cons_zero, List.set_cons_succ])
            refine wpAnyH_take (i := 1) (oi := { dst := some 91, op := Op.load 25 (Operand.tmp 11), type := 25, pos := "law.go:90", after := #[], guard := none }) (v := .agg fc) rfl (by kernel_rfl) (by kernel_rfl) (by kernel_rfl) (fun _ _ _ h => h) (Or.inl ⟨by rfl, fun W hS => exec_load_row 25 (.tmp 11) rfl F rfl 25 fc (0, 0) _ hS.2.1 Try.underlying25 rfl (by rw [HZ_fc.out]; exact i12)⟩) hHeld ?_
            (try simp only [Act.put, List.setIfInBounds_toArray, List.set_cons_zero, List.set_cons_succ])
            refine wpAnyH_take (i := 2) (oi := { dst := some 92, op := Op.build 27 #[(0, Operand.const (Value.int IntKind.i64 11)), (7, Operand.tmp 91)], type := 27, pos := "law.go:90", after := #[{ on := 1, ground := Ground.data }], guard := none }) (v := .agg dc) rfl (by kernel_rfl) (by kernel_rfl) (by kernel_rfl) (fun _ _ _ h => h) (Or.inl ⟨by rfl, fun W hS => exec_build_is 27 #[(0, .const (.int .i64 11)), (7, .tmp 91)] rfl dc (by rw [HE_dc.out, HE_fc.out]; kernel_rfl)⟩) hHeld ?_
            (try simp only [Act.put, List.setIfInBounds_toArray, List.set_cons_zero, List.set_cons_succ])
            refine wpAnyH_take (i := 4) (oi := { dst := some 94, op := Op.move (Operand.tmp 1), type := 33, pos := "law.go:90", after := #[], guard := none }) (v := ?_) rfl (by kernel_rfl) (by kernel_rfl) (by kernel_rfl) (fun _ _ _ h => h) (Or.inl ⟨by rfl, ?_⟩) hHeld ?_
            rotate_left
            · intro W hSw
              clear hSw
              first | (go_simp; done) | (go_simp; with_reducible rfl)
            (try simp only [Act.put, List.setIfInBounds_toArray, List.set_cons_zero, List.set_cons_succ])
            refine wpAnyH_take (i := 5) (oi := { dst := some 95, op := Op.move (Operand.tmp 2), type := 3, pos := "law.go:90", after := #[], guard := none }) (v := ?_) rfl (by kernel_rfl) (by kernel_rfl) (by kernel_rfl) (fun _ _ _ h => h) (Or.inl ⟨by rfl, ?_⟩) hHeld ?_
            rotate_left
            · intro W hSw
              clear hSw
              first | (go_simp; done) | (go_simp; with_reducible rfl)
            (try simp only [Act.put, List.setIfInBounds_toArray, List.set_cons_zero, List.set_cons_succ])
            refine wpAnyH_take (i := 6) (oi := { dst := some 96, op := Op.slice 33 (Operand.tmp 94) (some (Operand.tmp 95)) none none, type := 33, pos := "law.go:90", after := #[{ on := 4, ground := Ground.data }, { on := 5, ground := Ground.data }], guard := none }) (v := ?_) rfl (by kernel_rfl) (by kernel_rfl) (by kernel_rfl) (fun _ _ _ h => h) (Or.inl ⟨by rfl, ?_⟩) hHeld ?_
            rotate_left
            · intro W hSw
              clear hSw
              first | (go_simp; done) | (go_simp; with_reducible rfl)
            (try simp only [Act.put, List.setIfInBounds_toArray, List.set_cons_zero, List.set_cons_succ])
            refine wpAnyH_ready (rs := [3, 12]) (by kernel_rfl) (by simp) ?_
            refine AllReadyH.cons (o := { dst := some 93, op := Op.buildSlice 33 1 #[(0, Operand.tmp 92)], type := 33, pos := "law.go:90", after := #[{ on := 2, ground := Ground.data }], guard := none }) rfl (fun K hK => ?_) (AllReadyH.cons (o := { dst := some 15, op := Op.alloc 25, type := 0, pos := "law.go:90", after := #[], guard := none }) rfl (fun K hK => ?_) AllReadyH.nil)
            · rw [if_pos (by rfl)]
              refine wp_slice_is 33 1 #[(0, .tmp 92)] rfl #[(0, .agg dc)] (by kernel_rfl) (bs1 _) ?_
              refine hK.out _ _ ?_ (fun hHeld => ?_)
              · exact ⟨Rw.alloc RX_u10.out _, Rw.alloc RF_u10.out _, Rw.alloc RS_u10.out _, trivial⟩
              clear hK K hHeld
              (try simp only [Act.put, List.setIfInBounds_toArray, List.set_cons_zero, List.set_cons_succ])
              (try rw [show u10.drew.heap.size = u10.heap.size from rfl])
              obtain ⟨Eb, hEb⟩ : ∃ X, X = u10.heap.size := ⟨_, rfl⟩
              rw [← hEb]
              have HEB : Hid (w.heap.size ≤ Eb ∧ X < Eb ∧ F < Eb ∧ S < Eb) := Lib.hid (by rw [hEb]; exact ⟨BT_u10.out.size, RX_u10.out.lt, RF_u10.out.lt, RS_u10.out.lt⟩)
              refine name_h (fun W => Rw W X xc 25 ∧ Rw W F fc 25 ∧ Rw W S xc 25 ∧ W.ownsRow w.heap.size 27 19 (.slice (some ⟨Eb, 0, none⟩) 1 1) ([⟨11, 0, 0, 0, 0, 0, false, f.1⟩] : List Rc).length (flat ([⟨11, 0, 0, 0, 0, 0, false, f.1⟩] : List Rc)) ∧ Below w.heap.size w W ∧ Eb < W.heap.size) ⟨Rw.alloc RX_u10.out _, Rw.alloc RF_u10.out _, Rw.alloc RS_u10.out _, by rw [hEb]; exact HO1.out _ (BT_u10.out.size), Below.alloc (below_drew BT_u10.out) BT_u10.out.size _, by rw [hEb]; simp⟩ ?_
              clear hEb
              clear RX_u10 RF_u10 RS_u10 BT_u10
              rintro u140 ⟨h0, h1, h2, h3, h4, h5⟩
              have HEL := Lib.hid h5
              clear h5
              have RX_u140 := Lib.hid h0
              have RF_u140 := Lib.hid h1
              have RS_u140 := Lib.hid h2
              have HO_u140 := Lib.hid h3
              have BT_u140 := Lib.hid h4
              have hHeld : Rw u140 X xc 25 ∧ Rw u140 F fc 25 ∧ Rw u140 S xc 25 ∧ True := ⟨RX_u140.out, RF_u140.out, RS_u140.out, trivial⟩
              clear h0 h1 h2 h3 h4
              refine wpAnyH_ready (rs := [7, 12]) (by kernel_rfl) (by simp) ?_
              refine AllReadyH.cons (o := { dst := some 97, op := Op.call { callee := Callee.builtin Builtin.append, args := #[Operand.tmp 93, Operand.tmp 96], argTypes := #[33, 33] }, type := 33, pos := "law.go:90", after := #[{ on := 3, ground := Ground.data }, { on := 6, ground := Ground.data }], guard := none }) rfl (fun K hK => ?_) (AllReadyH.cons (o := { dst := some 15, op := Op.alloc 25, type := 0, pos := "law.go:90", after := #[], guard := none }) rfl (fun K hK => ?_) AllReadyH.nil)
              · obtain ⟨v2, u141, ea, hr2, hg2⟩ := append_recs HO_u140.out (HVD.out.under BT_u140.out (Nat.le_refl _)) BT_u140.out.size HN14.out
                rw [if_pos (by rfl)]
                refine wp_append_is (.tmp 93) (.tmp 96) 33 rfl rfl rfl ea ?_
                clear ea
                have kp : ∀ k, k < u140.heap.size → k ≠ Eb → u141.heap[k]? = u140.heap[k]? := fun k h1 h2 => hg2.block k h1 (by intro e; injection e with e; exact h2 e)
                have RX_u141 : Hid (Rw u141 X xc 25) := Lib.hid ((kp _ RX_u140.out.lt (Nat.ne_of_lt HEB.out.2.1)).trans RX_u140.out)
                have RF_u141 : Hid (Rw u141 F fc 25) := Lib.hid ((kp _ RF_u140.out.lt (Nat.ne_of_lt HEB.out.2.2.1)).trans RF_u140.out)
                have RS_u141 : Hid (Rw u141 S xc 25) := Lib.hid ((kp _ RS_u140.out.lt (Nat.ne_of_lt HEB.out.2.2.2)).trans RS_u140.out)
                have HO_u141 := Lib.hid hr2
                have BT_u141 : Hid (Below w.heap.size w u141) := Lib.hid (below_grown' BT_u140.out hg2 HEB.out.1 (Nat.le_refl _))
                clear hHeld kp hr2 hg2
                refine hK.out _ _ ?_ (fun hHeld => ?_)
                · exact ⟨RX_u141.out, RF_u141.out, RS_u141.out, trivial⟩
                clear hK K
                (try simp only [Act.put, List.setIfInBounds_toArray, List.set_cons_zero, List.set_cons_succ])
                clear RX_u140 RF_u140 RS_u140 HO_u140 BT_u140
                clear HEL
                clear HEB 
                refine wpAnyH_ready (rs := [8, 12]) (by kernel_rfl) (by simp) ?_
                refine AllReadyH.cons (o := { dst := some 98, op := Op.call { callee := Callee.value (Operand.func 16), args := #[Operand.tmp 90, Operand.tmp 97], argTypes := #[25, 33] }, type := 34, pos := "law.go:90", after := #[{ on := 0, ground := Ground.data }, { on := 7, ground := Ground.data }, { on := 7, ground := Ground.chain }], guard := none }) rfl (fun K hK => ?_) (AllReadyH.cons (o := { dst := some 15, op := Op.alloc 25, type := 0, pos := "law.go:90", after := #[], guard := none }) rfl (fun K hK => ?_) AllReadyH.nil)
                · go_simp
                  refine (C14.out _ _ HO_u141.out).mono ?_
                  rintro e u142 ⟨rfl, hb⟩
                  have RX_u142 := Lib.hid (RX_u141.out.under hb RX_u141.out.lt)
                  have RF_u142 := Lib.hid (RF_u141.out.under hb RF_u141.out.lt)
                  have RS_u142 := Lib.hid (RS_u141.out.under hb RS_u141.out.lt)
                  have BT_u142 := Lib.hid (BT_u141.out.trans (hb.mono BT_u141.out.size))
                  clear hb hHeld
                  refine hK.out _ _ ?_ (fun hHeld => ?_)
                  · exact ⟨RX_u142.out, RF_u142.out, RS_u142.out, trivial⟩
                  clear hK K
                  (try simp only [Act.put, List.setIfInBounds_toArray, List.set_cons_zero, List.set_cons_succ])
                  clear RX_u141 RF_u141 RS_u141 HO_u141 BT_u141
                  refine wpAnyH_take (i := 9) (oi := { dst := some 89, op := Op.move (Operand.tmp 98), type := 34, pos := "law.go:90", after := #[{ on := 8, ground := Ground.data }], guard := none }) (v := ?_) rfl (by kernel_rfl) (by kernel_rfl) (by kernel_rfl) (fun _ _ _ h => h) (Or.inl ⟨by rfl, ?_⟩) hHeld ?_
                  rotate_left
                  · intro W hSw
                    clear hSw
                    first | (go_simp; done) | (go_simp; with_reducible rfl)
                  (try simp only [Act.put, List.setIfInBounds_toArray, List.set_cons_zero, List.set_cons_succ])
                  refine wpAnyH_take (i := 10) (oi := { dst := some 99, op := Op.extract (Operand.tmp 89) 0, type := 25, pos := "law.go:90", after := #[{ on := 9, ground := Ground.data }], guard := none }) (v := ?_) rfl (by kernel_rfl) (by kernel_rfl) (by kernel_rfl) (fun _ _ _ h => h) (Or.inl ⟨by rfl, ?_⟩) hHeld ?_
                  rotate_left
                  · intro W hSw
                    clear hSw
                    first | (go_simp; done) | (go_simp; with_reducible rfl)
                  (try simp only [Act.put, List.setIfInBounds_toArray, List.set_cons_zero, List.set_cons_succ])
                  refine wpAnyH_take (i := 11) (oi := { dst := some 100, op := Op.extract (Operand.tmp 89) 1, type := 3, pos := "law.go:90", after := #[{ on := 9, ground := Ground.data }, { on := 13, ground := Ground.gcOnly Departure.lateStores }], guard := none }) (v := ?_) rfl (by kernel_rfl) (by kernel_rfl) (by kernel_rfl) (fun _ _ _ h => h) (Or.inl ⟨by rfl, ?_⟩) hHeld ?_
                  rotate_left
                  · intro W hSw
                    clear hSw
                    first | (go_simp; done) | (go_simp; with_reducible rfl)
                  (try simp only [Act.put, List.setIfInBounds_toArray, List.set_cons_zero, List.set_cons_succ])
                  refine wpAnyH_ready (rs := [12]) (by kernel_rfl) (by simp) ?_
                  refine AllReadyH.cons (o := { dst := some 15, op := Op.alloc 25, type := 0, pos := "law.go:90", after := #[], guard := none }) rfl (fun K hK => ?_) AllReadyH.nil
                  go_simp
                  refine hK.out _ _ ?_ (fun hHeld => ?_)
                  · exact ⟨Rw.alloc RX_u142.out _, Rw.alloc RF_u142.out _, Rw.alloc RS_u142.out _, trivial⟩
                  clear hK K hHeld
                  (try simp only [Act.put, List.setIfInBounds_toArray, List.set_cons_zero, List.set_cons_succ])
                  obtain ⟨Yb, hYb⟩ : ∃ X, X = u142.heap.size := ⟨_, rfl⟩
                  rw [← hYb]
                  have HYB : Hid (w.heap.size ≤ Yb ∧ X < Yb ∧ F < Yb ∧ S < Yb) := Lib.hid (by rw [hYb]; exact ⟨BT_u142.out.size, RX_u142.out.lt, RF_u142.out.lt, RS_u142.out.lt⟩)
                  refine name_h (fun W => Rw W X xc 25 ∧ Rw W F fc 25 ∧ Rw W S xc 25 ∧ Rw W Yb zeroSC 25 ∧ Below w.heap.size w W) ⟨Rw.alloc RX_u142.out _, Rw.alloc RF_u142.out _, Rw.alloc RS_u142.out _, by rw [hYb]; exact Rw.new _ _ _, Below.alloc BT_u142.out BT_u142.out.size _⟩ ?_
                  clear hYb 
                  clear RX_u142 RF_u142 RS_u142 BT_u142
                  rintro u143 ⟨h0, h1, h2, h3, h4⟩
                  have RX_u143 := Lib.hid h0
                  have RF_u143 := Lib.hid h1
                  have RS_u143 := Lib.hid h2
                  have RY_u143 := Lib.hid h3
                  have BT_u143 := Lib.hid h4
                  have hHeld : Rw u143 X xc 25 ∧ Rw u143 F fc 25 ∧ Rw u143 S xc 25 ∧ True := ⟨RX_u143.out, RF_u143.out, RS_u143.out, trivial⟩
                  clear h0 h1 h2 h3 h4
                  refine wpAnyH_ready (rs := [13]) (by kernel_rfl) (by simp) ?_
                  refine AllReadyH.cons (o := { dst := none, op := Op.store 25 (Operand.tmp 15) (Operand.tmp 99), type := 0, pos := "law.go:90", after := #[{ on := 12, ground := Ground.data }, { on := 10, ground := Ground.data }, { on := 8, ground := Ground.chain }, { on := 0, ground := Ground.phase }, { on := 1, ground := Ground.phase }, { on := 2, ground := Ground.phase }, { on := 3, ground := Ground.phase }, { on := 4, ground := Ground.phase }, { on := 5, ground := Ground.phase }, { on := 6, ground := Ground.phase }, { on := 7, ground := Ground.phase }, { on := 8, ground := Ground.phase }, { on := 9, ground := Ground.phase }, { on := 10, ground := Ground.phase }, { on := 11, ground := Ground.textOnly Departure.lateStores }, { on := 12, ground := Ground.phase }], guard := none }) rfl (fun K hK => ?_) AllReadyH.nil
                  rw [if_pos (by rfl)]
                  refine wp_store_row 25 (.tmp 15) (.tmp 99) rfl Yb xc rfl rfl 25 _ RY_u143.out (by rw [HZ_xc.out]; exact i12) (by rw [HZ_xc.out]; rfl) H1_xc.out ?_
                  clear hHeld
                  have RX_f : Hid (Rw (u143.setRow Yb xc) X xc 25) := Lib.hid ((setRow_block _ _ _ _ (Nat.ne_of_lt HYB.out.2.1)).trans RX_u143.out)
                  have RF_f : Hid (Rw (u143.setRow Yb xc) F fc 25) := Lib.hid ((setRow_block _ _ _ _ (Nat.ne_of_lt HYB.out.2.2.1)).trans RF_u143.out)
                  have RS_f : Hid (Rw (u143.setRow Yb xc) S xc 25) := Lib.hid ((setRow_block _ _ _ _ (Nat.ne_of_lt HYB.out.2.2.2)).trans RS_u143.out)
                  have RY_f : Hid (Rw (u143.setRow Yb xc) Yb xc 25) := Lib.hid (RY_u143.out.set xc)
                  have BT_f : Hid (Below w.heap.size w (u143.setRow Yb xc)) := Lib.hid (below_setRow BT_u143.out HYB.out.1 xc)
                  refine hK.out _ _ ?_ (fun hHeld => ?_)
                  · exact ⟨RX_f.out, RF_f.out, RS_f.out, trivial⟩
                  clear hK K
                  (try simp only [Act.put])
                  refine wpAnyH_take (i := 14) (oi := { dst := some 16, op := Op.assign (Operand.tmp 100), type := 3, pos := "law.go:90", after := #[{ on := 11, ground := Ground.data }, { on := 13, ground := Ground.chain }, { on := 0, ground := Ground.phase }, { on := 1, ground := Ground.phase }, { on := 2, ground := Ground.phase }, { on := 3, ground := Ground.phase }, { on := 4, ground := Ground.phase }, { on := 5, ground := Ground.phase }, { on := 6, ground := Ground.phase }, { on := 7, ground := Ground.phase }, { on := 8, ground := Ground.phase }, { on := 9, ground := Ground.phase }, { on := 10, ground := Ground.phase }, { on := 11, ground := Ground.phase }, { on := 12, ground := Ground.phase }, { on := 13, ground := Ground.phase }], guard := none }) (v := ?_) rfl (by kernel_rfl) (by kernel_rfl) (by kernel_rfl) (fun _ _ _ h => h) (Or.inl ⟨by rfl, ?_⟩) hHeld ?_
                  rotate_left
                  · intro W hSw
                    clear hSw
                    first | (go_simp; done) | (go_simp; with_reducible rfl)
                  (try simp only [Act.put, List.setIfInBounds_toArray, List.set_cons_zero, List.set_cons_succ])
                  refine wpAnyH_done (by kernel_rfl) ?_ _
                  go_wp2
                  go_meet
                  case rel => exact ⟨Yb, rfl, rfl, RX_f.out, RF_f.out, RS_f.out, RY_f.out, BT_f.out⟩
                · go_simp
                  refine hK.out _ _ ?_ (fun hHeld => ?_)
                  · exact ⟨Rw.alloc RX_u141.out _, Rw.alloc RF_u141.out _, Rw.alloc RS_u141.out _, trivial⟩
                  clear hK K hHeld
                  (try simp only [Act.put, List.setIfInBounds_toArray, List.set_cons_zero, List.set_cons_succ])
                  obtain ⟨Yb, hYb⟩ : ∃ X, X = u141.heap.size := ⟨_, rfl⟩
                  rw [← hYb]
                  have HYB : Hid (w.heap.size ≤ Yb ∧ X < Yb ∧ F < Yb ∧ S < Yb) := Lib.hid (by rw [hYb]; exact ⟨BT_u141.out.size, RX_u141.out.lt, RF_u141.out.lt, RS_u141.out.lt⟩)
                  refine name_h (fun W => Rw W X xc 25 ∧ Rw W F fc 25 ∧ Rw W S xc 25 ∧ Rw W Yb zeroSC 25 ∧ Recs W v2 (([⟨11, 0, 0, 0, 0, 0, false, f.1⟩] : List Rc) ++ rs.drop a) ∧ Below w.heap.size w W) ⟨Rw.alloc RX_u141.out _, Rw.alloc RF_u141.out _, Rw.alloc RS_u141.out _, by rw [hYb]; exact Rw.new _ _ _, HO_u141.out.under ((Below.refl _ _).alloc (Nat.le_refl _) _) (Nat.le_refl _), Below.alloc BT_u141.out BT_u141.out.size _⟩ ?_
                  clear hYb 
                  clear RX_u141 RF_u141 RS_u141 HO_u141 BT_u141
                  rintro u144 ⟨h0, h1, h2, h3, h4, h5⟩
                  have RX_u144 := Lib.hid h0
                  have RF_u144 := Lib.hid h1
                  have RS_u144 := Lib.hid h2
                  have RY_u144 := Lib.hid h3
                  have HO_u144 := Lib.hid h4
                  have BT_u144 := Lib.hid h5
                  have hHeld : Rw u144 X xc 25 ∧ Rw u144 F fc 25 ∧ Rw u144 S xc 25 ∧ True := ⟨RX_u144.out, RF_u144.out, RS_u144.out, trivial⟩
                  clear h0 h1 h2 h3 h4 h5
                  refine wpAnyH_ready (rs := [8]) (by kernel_rfl) (by simp) ?_
                  refine AllReadyH.cons (o := { dst := some 98, op := Op.call { callee := Callee.value (Operand.func 16), args := #[Operand.tmp 90, Operand.tmp 97], argTypes := #[25, 33] }, type := 34, pos := "law.go:90", after := #[{ on := 0, ground := Ground.data }, { on := 7, ground := Ground.data }, { on := 7, ground := Ground.chain }], guard := none }) rfl (fun K hK => ?_) AllReadyH.nil
                  go_simp
                  refine (C14.out _ _ HO_u144.out).mono ?_
                  rintro e u145 ⟨rfl, hb⟩
                  have RX_u145 := Lib.hid (RX_u144.out.under hb RX_u144.out.lt)
                  have RF_u145 := Lib.hid (RF_u144.out.under hb RF_u144.out.lt)
                  have RS_u145 := Lib.hid (RS_u144.out.under hb RS_u144.out.lt)
                  have RY_u145 := Lib.hid (RY_u144.out.under hb RY_u144.out.lt)
                  have BT_u145 := Lib.hid (BT_u144.out.trans (hb.mono BT_u144.out.size))
                  clear hb hHeld
                  refine hK.out _ _ ?_ (fun hHeld => ?_)
                  · exact ⟨RX_u145.out, RF_u145.out, RS_u145.out, trivial⟩
                  clear hK K
                  (try simp only [Act.put, List.setIfInBounds_toArray, List.set_cons_zero, List.set_cons_succ])
                  clear RX_u144 RF_u144 RS_u144 RY_u144 HO_u144 BT_u144
                  refine wpAnyH_take (i := 9) (oi := { dst := some 89, op := Op.move (Operand.tmp 98), type := 34, pos := "law.go:90", after := #[{ on := 8, ground := Ground.data }], guard := none }) (v := ?_) rfl (by kernel_rfl) (by kernel_rfl) (by kernel_rfl) (fun _ _ _ h => h) (Or.inl ⟨by rfl, ?_⟩) hHeld ?_
                  rotate_left
                  · intro W hSw
                    clear hSw
                    first | (go_simp; done) | (go_simp; with_reducible rfl)
                  (try simp only [Act.put, List.setIfInBounds_toArray, List.set_cons_zero, List.set_cons_succ])
                  refine wpAnyH_take (i := 10) (oi := { dst := some 99, op := Op.extract (Operand.tmp 89) 0, type := 25, pos := "law.go:90", after := #[{ on := 9, ground := Ground.data }], guard := none }) (v := ?_) rfl (by kernel_rfl) (by kernel_rfl) (by kernel_rfl) (fun _ _ _ h => h) (Or.inl ⟨by rfl, ?_⟩) hHeld ?_
                  rotate_left
                  · intro W hSw
                    clear hSw
                    first | (go_simp; done) | (go_simp; with_reducible rfl)
                  (try simp only [Act.put, List.setIfInBounds_toArray, List.set_cons_zero, List.set_cons_succ])
                  refine wpAnyH_take (i := 11) (oi := { dst := some 100, op := Op.extract (Operand.tmp 89) 1, type := 3, pos := "law.go:90", after := #[{ on := 9, ground := Ground.data }, { on := 13, ground := Ground.gcOnly Departure.lateStores }], guard := none }) (v := ?_) rfl (by kernel_rfl) (by kernel_rfl) (by kernel_rfl) (fun _ _ _ h => h) (Or.inl ⟨by rfl, ?_⟩) hHeld ?_
                  rotate_left
                  · intro W hSw
                    clear hSw
                    first | (go_simp; done) | (go_simp; with_reducible rfl)
                  (try simp only [Act.put, List.setIfInBounds_toArray, List.set_cons_zero, List.set_cons_succ])
                  refine wpAnyH_ready (rs := [13]) (by kernel_rfl) (by simp) ?_
                  refine AllReadyH.cons (o := { dst := none, op := Op.store 25 (Operand.tmp 15) (Operand.tmp 99), type := 0, pos := "law.go:90", after := #[{ on := 12, ground := Ground.data }, { on := 10, ground := Ground.data }, { on := 8, ground := Ground.chain }, { on := 0, ground := Ground.phase }, { on := 1, ground := Ground.phase }, { on := 2, ground := Ground.phase }, { on := 3, ground := Ground.phase }, { on := 4, ground := Ground.phase }, { on := 5, ground := Ground.phase }, { on := 6, ground := Ground.phase }, { on := 7, ground := Ground.phase }, { on := 8, ground := Ground.phase }, { on := 9, ground := Ground.phase }, { on := 10, ground := Ground.phase }, { on := 11, ground := Ground.textOnly Departure.lateStores }, { on := 12, ground := Ground.phase }], guard := none }) rfl (fun K hK => ?_) AllReadyH.nil
                  rw [if_pos (by rfl)]
                  refine wp_store_row 25 (.tmp 15) (.tmp 99) rfl Yb xc rfl rfl 25 _ RY_u145.out (by rw [HZ_xc.out]; exact i12) (by rw [HZ_xc.out]; rfl) H1_xc.out ?_
                  clear hHeld
                  have RX_f : Hid (Rw (u145.setRow Yb xc) X xc 25) := Lib.hid ((setRow_block _ _ _ _ (Nat.ne_of_lt HYB.out.2.1)).trans RX_u145.out)
                  have RF_f : Hid (Rw (u145.setRow Yb xc) F fc 25) := Lib.hid ((setRow_block _ _ _ _ (Nat.ne_of_lt HYB.out.2.2.1)).trans RF_u145.out)
                  have RS_f : Hid (Rw (u145.setRow Yb xc) S xc 25) := Lib.hid ((setRow_block _ _ _ _ (Nat.ne_of_lt HYB.out.2.2.2)).trans RS_u145.out)
                  have RY_f : Hid (Rw (u145.setRow Yb xc) Yb xc 25) := Lib.hid (RY_u145.out.set xc)
                  have BT_f : Hid (Below w.heap.size w (u145.setRow Yb xc)) := Lib.hid (below_setRow BT_u145.out HYB.out.1 xc)
                  refine hK.out _ _ ?_ (fun hHeld => ?_)
                  · exact ⟨RX_f.out, RF_f.out, RS_f.out, trivial⟩
                  clear hK K
                  (try simp only [Act.put])
                  refine wpAnyH_take (i := 14) (oi := { dst := some 16, op := Op.assign (Operand.tmp 100), type := 3, pos := "law.go:90", after := #[{ on := 11, ground := Ground.data }, { on := 13, ground := Ground.chain }, { on := 0, ground := Ground.phase }, { on := 1, ground := Ground.phase }, { on := 2, ground := Ground.phase }, { on := 3, ground := Ground.phase }, { on := 4, ground := Ground.phase }, { on := 5, ground := Ground.phase }, { on := 6, ground := Ground.phase }, { on := 7, ground := Ground.phase }, { on := 8, ground := Ground.phase }, { on := 9, ground := Ground.phase }, { on := 10, ground := Ground.phase }, { on := 11, ground := Ground.phase }, { on := 12, ground := Ground.phase }, { on := 13, ground := Ground.phase }], guard := none }) (v := ?_) rfl (by kernel_rfl) (by kernel_rfl) (by kernel_rfl) (fun _ _ _ h => h) (Or.inl ⟨by rfl, ?_⟩) hHeld ?_
                  rotate_left
                  · intro W hSw
                    clear hSw
                    first | (go_simp; done) | (go_simp; with_reducible rfl)
                  (try simp only [Act.put, List.setIfInBounds_toArray, List.set_cons_zero, List.set_cons_succ])
                  refine wpAnyH_done (by kernel_rfl) ?_ _
                  go_wp2
                  go_meet
                  case rel => exact ⟨Yb, rfl, rfl, RX_f.out, RF_f.out, RS_f.out, RY_f.out, BT_f.out⟩
              · go_simp
                refine hK.out _ _ ?_ (fun hHeld => ?_)
                · exact ⟨Rw.alloc RX_u140.out _, Rw.alloc RF_u140.out _, Rw.alloc RS_u140.out _, trivial⟩
                clear hK K hHeld
                (try simp only [Act.put, List.setIfInBounds_toArray, List.set_cons_zero, List.set_cons_succ])
                obtain ⟨Yb, hYb⟩ : ∃ X, X = u140.heap.size := ⟨_, rfl⟩
                rw [← hYb]
                have HYB : Hid (w.heap.size ≤ Yb ∧ X < Yb ∧ F < Yb ∧ S < Yb) := Lib.hid (by rw [hYb]; exact ⟨BT_u140.out.size, RX_u140.out.lt, RF_u140.out.lt, RS_u140.out.lt⟩)
                have HYE : Hid (Yb ≠ Eb) := Lib.hid (by rw [hYb]; exact Nat.ne_of_gt HEL.out)
                refine name_h (fun W => Rw W X xc 25 ∧ Rw W F fc 25 ∧ Rw W S xc 25 ∧ Rw W Yb zeroSC 25 ∧ W.ownsRow w.heap.size 27 19 (.slice (some ⟨Eb, 0, none⟩) 1 1) ([⟨11, 0, 0, 0, 0, 0, false, f.1⟩] : List Rc).length (flat ([⟨11, 0, 0, 0, 0, 0, false, f.1⟩] : List Rc)) ∧ Below w.heap.size w W) ⟨Rw.alloc RX_u140.out _, Rw.alloc RF_u140.out _, Rw.alloc RS_u140.out _, by rw [hYb]; exact Rw.new _ _ _, World.ownsRow.alloc HO_u140.out _, Below.alloc BT_u140.out BT_u140.out.size _⟩ ?_
                clear hYb HEL
                clear RX_u140 RF_u140 RS_u140 HO_u140 BT_u140
                rintro u146 ⟨h0, h1, h2, h3, h4, h5⟩
                have RX_u146 := Lib.hid h0
                have RF_u146 := Lib.hid h1
                have RS_u146 := Lib.hid h2
                have RY_u146 := Lib.hid h3
                have HO_u146 := Lib.hid h4
                have BT_u146 := Lib.hid h5
                have hHeld : Rw u146 X xc 25 ∧ Rw u146 F fc 25 ∧ Rw u146 S xc 25 ∧ True := ⟨RX_u146.out, RF_u146.out, RS_u146.out, trivial⟩
                clear h0 h1 h2 h3 h4 h5
                refine wpAnyH_ready (rs := [7]) (by kernel_rfl) (by simp) ?_
                refine AllReadyH.cons (o := { dst := some 97, op := Op.call { callee := Callee.builtin Builtin.append, args := #[Operand.tmp 93, Operand.tmp 96], argTypes := #[33, 33] }, type := 33, pos := "law.go:90", after := #[{ on := 3, ground := Ground.data }, { on := 6, ground := Ground.data }], guard := none }) rfl (fun K hK => ?_) AllReadyH.nil
                obtain ⟨v2, u147, ea, hr2, hg2⟩ := append_recs HO_u146.out (HVD.out.under BT_u146.out (Nat.le_refl _)) BT_u146.out.size HN14.out
                rw [if_pos (by rfl)]
                refine wp_append_is (.tmp 93) (.tmp 96) 33 rfl rfl rfl ea ?_
                clear ea
                have kp : ∀ k, k < u146.heap.size → k ≠ Eb → u147.heap[k]? = u146.heap[k]? := fun k h1 h2 => hg2.block k h1 (by intro e; injection e with e; exact h2 e)
                have RX_u147 : Hid (Rw u147 X xc 25) := Lib.hid ((kp _ RX_u146.out.lt (Nat.ne_of_lt HEB.out.2.1)).trans RX_u146.out)
                have RF_u147 : Hid (Rw u147 F fc 25) := Lib.hid ((kp _ RF_u146.out.lt (Nat.ne_of_lt HEB.out.2.2.1)).trans RF_u146.out)
                have RS_u147 : Hid (Rw u147 S xc 25) := Lib.hid ((kp _ RS_u146.out.lt (Nat.ne_of_lt HEB.out.2.2.2)).trans RS_u146.out)
                have RY_u147 : Hid (Rw u147 Yb zeroSC 25) := Lib.hid ((kp _ RY_u146.out.lt HYE.out).trans RY_u146.out)
                have HO_u147 := Lib.hid hr2
                have BT_u147 : Hid (Below w.heap.size w u147) := Lib.hid (below_grown' BT_u146.out hg2 HEB.out.1 (Nat.le_refl _))
                clear hHeld kp hr2 hg2
                refine hK.out _ _ ?_ (fun hHeld => ?_)
                · exact ⟨RX_u147.out, RF_u147.out, RS_u147.out, trivial⟩
                clear hK K
                (try simp only [Act.put, List.setIfInBounds_toArray, List.set_cons_zero, List.set_cons_succ])
                clear RX_u146 RF_u146 RS_u146 RY_u146 HO_u146 BT_u146
                clear HEB HYE
                refine wpAnyH_ready (rs := [8]) (by kernel_rfl) (by simp) ?_
                refine AllReadyH.cons (o := { dst := some 98, op := Op.call { callee := Callee.value (Operand.func 16), args := #[Operand.tmp 90, Operand.tmp 97], argTypes := #[25, 33] }, type := 34, pos := "law.go:90", after := #[{ on := 0, ground := Ground.data }, { on := 7, ground := Ground.data }, { on := 7, ground := Ground.chain }], guard := none }) rfl (fun K hK => ?_) AllReadyH.nil
                go_simp
                refine (C14.out _ _ HO_u147.out).mono ?_
                rintro e u148 ⟨rfl, hb⟩
                have RX_u148 := Lib.hid (RX_u147.out.under hb RX_u147.out.lt)
                have RF_u148 := Lib.hid (RF_u147.out.under hb RF_u147.out.lt)
                have RS_u148 := Lib.hid (RS_u147.out.under hb RS_u147.out.lt)
                have RY_u148 := Lib.hid (RY_u147.out.under hb RY_u147.out.lt)
                have BT_u148 := Lib.hid (BT_u147.out.trans (hb.mono BT_u147.out.size))
                clear hb hHeld
                refine hK.out _ _ ?_ (fun hHeld => ?_)
                · exact ⟨RX_u148.out, RF_u148.out, RS_u148.out, trivial⟩
                clear hK K
                (try simp only [Act.put, List.setIfInBounds_toArray, List.set_cons_zero, List.set_cons_succ])
                clear RX_u147 RF_u147 RS_u147 RY_u147 HO_u147 BT_u147
                refine wpAnyH_take (i := 9) (oi := { dst := some 89, op := Op.move (Operand.tmp 98), type := 34, pos := "law.go:90", after := #[{ on := 8, ground := Ground.data }], guard := none }) (v := ?_) rfl (by kernel_rfl) (by kernel_rfl) (by kernel_rfl) (fun _ _ _ h => h) (Or.inl ⟨by rfl, ?_⟩) hHeld ?_
                rotate_left
                · intro W hSw
                  clear hSw
                  first | (go_simp; done) | (go_simp; with_reducible rfl)
                (try simp only [Act.put, List.setIfInBounds_toArray, List.set_cons_zero, List.set_cons_succ])
                refine wpAnyH_take (i := 10) (oi := { dst := some 99, op := Op.extract (Operand.tmp 89) 0, type := 25, pos := "law.go:90", after := #[{ on := 9, ground := Ground.data }], guard := none }) (v := ?_) rfl (by kernel_rfl) (by kernel_rfl) (by kernel_rfl) (fun _ _ _ h => h) (Or.inl ⟨by rfl, ?_⟩) hHeld ?_
                rotate_left
                · intro W hSw
                  clear hSw
                  first | (go_simp; done) | (go_simp; with_reducible rfl)
                (try simp only [Act.put, List.setIfInBounds_toArray, List.set_cons_zero, List.set_cons_succ])
                refine wpAnyH_take (i := 11) (oi := { dst := some 100, op := Op.extract (Operand.tmp 89) 1, type := 3, pos := "law.go:90", after := #[{ on := 9, ground := Ground.data }, { on := 13, ground := Ground.gcOnly Departure.lateStores }], guard := none }) (v := ?_) rfl (by kernel_rfl) (by kernel_rfl) (by kernel_rfl) (fun _ _ _ h => h) (Or.inl ⟨by rfl, ?_⟩) hHeld ?_
                rotate_left
                · intro W hSw
                  clear hSw
                  first | (go_simp; done) | (go_simp; with_reducible rfl)
                (try simp only [Act.put, List.setIfInBounds_toArray, List.set_cons_zero, List.set_cons_succ])
                refine wpAnyH_ready (rs := [13]) (by kernel_rfl) (by simp) ?_
                refine AllReadyH.cons (o := { dst := none, op := Op.store 25 (Operand.tmp 15) (Operand.tmp 99), type := 0, pos := "law.go:90", after := #[{ on := 12, ground := Ground.data }, { on := 10, ground := Ground.data }, { on := 8, ground := Ground.chain }, { on := 0, ground := Ground.phase }, { on := 1, ground := Ground.phase }, { on := 2, ground := Ground.phase }, { on := 3, ground := Ground.phase }, { on := 4, ground := Ground.phase }, { on := 5, ground := Ground.phase }, { on := 6, ground := Ground.phase }, { on := 7, ground := Ground.phase }, { on := 8, ground := Ground.phase }, { on := 9, ground := Ground.phase }, { on := 10, ground := Ground.phase }, { on := 11, ground := Ground.textOnly Departure.lateStores }, { on := 12, ground := Ground.phase }], guard := none }) rfl (fun K hK => ?_) AllReadyH.nil
                rw [if_pos (by rfl)]
                refine wp_store_row 25 (.tmp 15) (.tmp 99) rfl Yb xc rfl rfl 25 _ RY_u148.out (by rw [HZ_xc.out]; exact i12) (by rw [HZ_xc.out]; rfl) H1_xc.out ?_
                clear hHeld
                have RX_f : Hid (Rw (u148.setRow Yb xc) X xc 25) := Lib.hid ((setRow_block _ _ _ _ (Nat.ne_of_lt HYB.out.2.1)).trans RX_u148.out)
                have RF_f : Hid (Rw (u148.setRow Yb xc) F fc 25) := Lib.hid ((setRow_block _ _ _ _ (Nat.ne_of_lt HYB.out.2.2.1)).trans RF_u148.out)
                have RS_f : Hid (Rw (u148.setRow Yb xc) S xc 25) := Lib.hid ((setRow_block _ _ _ _ (Nat.ne_of_lt HYB.out.2.2.2)).trans RS_u148.out)
                have RY_f : Hid (Rw (u148.setRow Yb xc) Yb xc 25) := Lib.hid (RY_u148.out.set xc)
                have BT_f : Hid (Below w.heap.size w (u148.setRow Yb xc)) := Lib.hid (below_setRow BT_u148.out HYB.out.1 xc)
                refine hK.out _ _ ?_ (fun hHeld => ?_)
                · exact ⟨RX_f.out, RF_f.out, RS_f.out, trivial⟩
                clear hK K
                (try simp only [Act.put])
                refine wpAnyH_take (i := 14) (oi := { dst := some 16, op := Op.assign (Operand.tmp 100), type := 3, pos := "law.go:90", after := #[{ on := 11, ground := Ground.data }, { on := 13, ground := Ground.chain }, { on := 0, ground := Ground.phase }, { on := 1, ground := Ground.phase }, { on := 2, ground := Ground.phase }, { on := 3, ground := Ground.phase }, { on := 4, ground := Ground.phase }, { on := 5, ground := Ground.phase }, { on := 6, ground := Ground.phase }, { on := 7, ground := Ground.phase }, { on := 8, ground := Ground.phase }, { on := 9, ground := Ground.phase }, { on := 10, ground := Ground.phase }, { on := 11, ground := Ground.phase }, { on := 12, ground := Ground.phase }, { on := 13, ground := Ground.phase }], guard := none }) (v := ?_) rfl (by kernel_rfl) (by kernel_rfl) (by kernel_rfl) (fun _ _ _ h => h) (Or.inl ⟨by rfl, ?_⟩) hHeld ?_
                rotate_left
                · intro W hSw
                  clear hSw
                  first | (go_simp; done) | (go_simp; with_reducible rfl)
                (try simp only [Act.put, List.setIfInBounds_toArray, List.set_cons_zero, List.set_cons_succ])
                refine wpAnyH_done (by kernel_rfl) ?_ _
                go_wp2
                go_meet
                case rel => exact ⟨Yb, rfl, rfl, RX_f.out, RF_f.out, RS_f.out, RY_f.out, BT_f.out⟩
            · go_simp
              refine hK.out _ _ ?_ (fun hHeld => ?_)
              · exact ⟨Rw.alloc RX_u10.out _, Rw.alloc RF_u10.out _, Rw.alloc RS_u10.out _, trivial⟩
              clear hK K hHeld
              (try simp only [Act.put, List.setIfInBounds_toArray, List.set_cons_zero, List.set_cons_succ])
              obtain ⟨Yb, hYb⟩ : ∃ X, X = u10.heap.size := ⟨_, rfl⟩
              rw [← hYb]
              have HYB : Hid (w.heap.size ≤ Yb ∧ X < Yb ∧ F < Yb ∧ S < Yb) := Lib.hid (by rw [hYb]; exact ⟨BT_u10.out.size, RX_u10.out.lt, RF_u10.out.lt, RS_u10.out.lt⟩)
              refine name_h (fun W => Rw W X xc 25 ∧ Rw W F fc 25 ∧ Rw W S xc 25 ∧ Rw W Yb zeroSC 25 ∧ Below w.heap.size w W) ⟨Rw.alloc RX_u10.out _, Rw.alloc RF_u10.out _, Rw.alloc RS_u10.out _, by rw [hYb]; exact Rw.new _ _ _, Below.alloc (below_drew BT_u10.out) BT_u10.out.size _⟩ ?_
              clear hYb 
              clear RX_u10 RF_u10 RS_u10 BT_u10
              rintro u149 ⟨h0, h1, h2, h3, h4⟩
              have RX_u149 := Lib.hid h0
              have RF_u149 := Lib.hid h1
              have RS_u149 := Lib.hid h2
              have RY_u149 := Lib.hid h3
              have BT_u149 := Lib.hid h4
              have hHeld : Rw u149 X xc 25 ∧ Rw u149 F fc 25 ∧ Rw u149 S xc 25 ∧ True := ⟨RX_u149.out, RF_u149.out, RS_u149.out, trivial⟩
              clear h0 h1 h2 h3 h4
              refine wpAnyH_ready (rs := [3]) (by kernel_rfl) (by simp) ?_
              refine AllReadyH.cons (o := { dst := some 93, op := Op.buildSlice 33 1 #[(0, Operand.tmp 92)], type := 33, pos := "law.go:90", after := #[{ on := 2, ground := Ground.data }], guard := none }) rfl (fun K hK => ?_) AllReadyH.nil
              rw [if_pos (by rfl)]
              refine wp_slice_is 33 1 #[(0, .tmp 92)] rfl #[(0, .agg dc)] (by kernel_rfl) (bs1 _) ?_
              refine hK.out _ _ ?_ (fun hHeld => ?_)
              · exact ⟨Rw.alloc RX_u149.out _, Rw.alloc RF_u149.out _, Rw.alloc RS_u149.out _, trivial⟩
              clear hK K hHeld
              (try simp only [Act.put, List.setIfInBounds_toArray, List.set_cons_zero, List.set_cons_succ])
              (try skip)
              obtain ⟨Eb, hEb⟩ : ∃ X, X = u149.heap.size := ⟨_, rfl⟩
              rw [← hEb]
              have HEB : Hid (w.heap.size ≤ Eb ∧ X < Eb ∧ F < Eb ∧ S < Eb) := Lib.hid (by rw [hEb]; exact ⟨BT_u149.out.size, RX_u149.out.lt, RF_u149.out.lt, RS_u149.out.lt⟩)
              have HYE : Hid (Yb ≠ Eb) := Lib.hid (by rw [hEb]; exact Nat.ne_of_lt RY_u149.out.lt)
              refine name_h (fun W => Rw W X xc 25 ∧ Rw W F fc 25 ∧ Rw W S xc 25 ∧ Rw W Yb zeroSC 25 ∧ W.ownsRow w.heap.size 27 19 (.slice (some ⟨Eb, 0, none⟩) 1 1) ([⟨11, 0, 0, 0, 0, 0, false, f.1⟩] : List Rc).length (flat ([⟨11, 0, 0, 0, 0, 0, false, f.1⟩] : List Rc)) ∧ Below w.heap.size w W ∧ Eb < W.heap.size) ⟨Rw.alloc RX_u149.out _, Rw.alloc RF_u149.out _, Rw.alloc RS_u149.out _, Rw.alloc RY_u149.out _, by rw [hEb]; exact HO1.out _ (BT_u149.out.size), Below.alloc BT_u149.out BT_u149.out.size _, by rw [hEb]; simp⟩ ?_
              clear hEb
              clear RX_u149 RF_u149 RS_u149 RY_u149 BT_u149
              rintro u150 ⟨h0, h1, h2, h3, h4, h5, h6⟩
              have HEL := Lib.hid h6
              clear h6
              have RX_u150 := Lib.hid h0
              have RF_u150 := Lib.hid h1
              have RS_u150 := Lib.hid h2
              have RY_u150 := Lib.hid h3
              have HO_u150 := Lib.hid h4
              have BT_u150 := Lib.hid h5
              have hHeld : Rw u150 X xc 25 ∧ Rw u150 F fc 25 ∧ Rw u150 S xc 25 ∧ True := ⟨RX_u150.out, RF_u150.out, RS_u150.out, trivial⟩
              clear h0 h1 h2 h3 h4 h5
              clear HEL
              refine wpAnyH_ready (rs := [7]) (by kernel_rfl) (by simp) ?_
              refine AllReadyH.cons (o := { dst := some 97, op := Op.call { callee := Callee.builtin Builtin.append, args := #[Operand.tmp 93, Operand.tmp 96], argTypes := #[33, 33] }, type := 33, pos := "law.go:90", after := #[{ on := 3, ground := Ground.data }, { on := 6, ground := Ground.data }], guard := none }) rfl (fun K hK => ?_) AllReadyH.nil
              obtain ⟨v2, u151, ea, hr2, hg2⟩ := append_recs HO_u150.out (HVD.out.under BT_u150.out (Nat.le_refl _)) BT_u150.out.size HN14.out
              rw [if_pos (by rfl)]
              refine wp_append_is (.tmp 93) (.tmp 96) 33 rfl rfl rfl ea ?_
              clear ea
              have kp : ∀ k, k < u150.heap.size → k ≠ Eb → u151.heap[k]? = u150.heap[k]? := fun k h1 h2 => hg2.block k h1 (by intro e; injection e with e; exact h2 e)
              have RX_u151 : Hid (Rw u151 X xc 25) := Lib.hid ((kp _ RX_u150.out.lt (Nat.ne_of_lt HEB.out.2.1)).trans RX_u150.out)
              have RF_u151 : Hid (Rw u151 F fc 25) := Lib.hid ((kp _ RF_u150.out.lt (Nat.ne_of_lt HEB.out.2.2.1)).trans RF_u150.out)
              have RS_u151 : Hid (Rw u151 S xc 25) := Lib.hid ((kp _ RS_u150.out.lt (Nat.ne_of_lt HEB.out.2.2.2)).trans RS_u150.out)
              have RY_u151 : Hid (Rw u151 Yb zeroSC 25) := Lib.hid ((kp _ RY_u150.out.lt HYE.out).trans RY_u150.out)
              have HO_u151 := Lib.hid hr2
              have BT_u151 : Hid (Below w.heap.size w u151) := Lib.hid (below_grown' BT_u150.out hg2 HEB.out.1 (Nat.le_refl _))
              clear hHeld kp hr2 hg2
              refine hK.out _ _ ?_ (fun hHeld => ?_)
              · exact ⟨RX_u151.out, RF_u151.out, RS_u151.out, trivial⟩
              clear hK K
              (try simp only [Act.put, List.setIfInBounds_toArray, List.set_cons_zero, List.set_cons_succ])
              clear RX_u150 RF_u150 RS_u150 RY_u150 HO_u150 BT_u150
              clear HEB HYE
              refine wpAnyH_ready (rs := [8]) (by kernel_rfl) (by simp) ?_
              refine AllReadyH.cons (o := { dst := some 98, op := Op.call { callee := Callee.value (Operand.func 16), args := #[Operand.tmp 90, Operand.tmp 97], argTypes := #[25, 33] }, type := 34, pos := "law.go:90", after := #[{ on := 0, ground := Ground.data }, { on := 7, ground := Ground.data }, { on := 7, ground := Ground.chain }], guard := none }) rfl (fun K hK => ?_) AllReadyH.nil
              go_simp
              refine (C14.out _ _ HO_u151.out).mono ?_
              rintro e u152 ⟨rfl, hb⟩
              have RX_u152 := Lib.hid (RX_u151.out.under hb RX_u151.out.lt)
              have RF_u152 := Lib.hid (RF_u151.out.under hb RF_u151.out.lt)
              have RS_u152 := Lib.hid (RS_u151.out.under hb RS_u151.out.lt)
              have RY_u152 := Lib.hid (RY_u151.out.under hb RY_u151.out.lt)
              have BT_u152 := Lib.hid (BT_u151.out.trans (hb.mono BT_u151.out.size))
              clear hb hHeld
              refine hK.out _ _ ?_ (fun hHeld => ?_)
              · exact ⟨RX_u152.out, RF_u152.out, RS_u152.out, trivial⟩
              clear hK K
              (try simp only [Act.put, List.setIfInBounds_toArray, List.set_cons_zero, List.set_cons_succ])
              clear RX_u151 RF_u151 RS_u151 RY_u151 HO_u151 BT_u151
              refine wpAnyH_take (i := 9) (oi := { dst := some 89, op := Op.move (Operand.tmp 98), type := 34, pos := "law.go:90", after := #[{ on := 8, ground := Ground.data }], guard := none }) (v := ?_) rfl (by kernel_rfl) (by kernel_rfl) (by kernel_rfl) (fun _ _ _ h => h) (Or.inl ⟨by rfl, ?_⟩) hHeld ?_
              rotate_left
              · intro W hSw
                clear hSw
                first | (go_simp; done) | (go_simp; with_reducible rfl)
              (try simp only [Act.put, List.setIfInBounds_toArray, List.set_cons_zero, List.set_cons_succ])
              refine wpAnyH_take (i := 10) (oi := { dst := some 99, op := Op.extract (Operand.tmp 89) 0, type := 25, pos := "law.go:90", after := #[{ on := 9, ground := Ground.data }], guard := none }) (v := ?_) rfl (by kernel_rfl) (by kernel_rfl) (by kernel_rfl) (fun _ _ _ h => h) (Or.inl ⟨by rfl, ?_⟩) hHeld ?_
              rotate_left
              · intro W hSw
                clear hSw
                first | (go_simp; done) | (go_simp; with_reducible rfl)
              (try simp only [Act.put, List.setIfInBounds_toArray, List.set_cons_zero, List.set_cons_succ])
              refine wpAnyH_take (i := 11) (oi := { dst := some 100, op := Op.extract (Operand.tmp 89) 1, type := 3, pos := "law.go:90", after := #[{ on := 9, ground := Ground.data }, { on := 13, ground := Ground.gcOnly Departure.lateStores }], guard := none }) (v := ?_) rfl (by kernel_rfl) (by kernel_rfl) (by kernel_rfl) (fun _ _ _ h => h) (Or.inl ⟨by rfl, ?_⟩) hHeld ?_
              rotate_left
              · intro W hSw
                clear hSw
                first | (go_simp; done) | (go_simp; with_reducible rfl)
              (try simp only [Act.put, List.setIfInBounds_toArray, List.set_cons_zero, List.set_cons_succ])
              refine wpAnyH_ready (rs := [13]) (by kernel_rfl) (by simp) ?_
              refine AllReadyH.cons (o := { dst := none, op := Op.store 25 (Operand.tmp 15) (Operand.tmp 99), type := 0, pos := "law.go:90", after := #[{ on := 12, ground := Ground.data }, { on := 10, ground := Ground.data }, { on := 8, ground := Ground.chain }, { on := 0, ground := Ground.phase }, { on := 1, ground := Ground.phase }, { on := 2, ground := Ground.phase }, { on := 3, ground := Ground.phase }, { on := 4, ground := Ground.phase }, { on := 5, ground := Ground.phase }, { on := 6, ground := Ground.phase }, { on := 7, ground := Ground.phase }, { on := 8, ground := Ground.phase }, { on := 9, ground := Ground.phase }, { on := 10, ground := Ground.phase }, { on := 11, ground := Ground.textOnly Departure.lateStores }, { on := 12, ground := Ground.phase }], guard := none }) rfl (fun K hK => ?_) AllReadyH.nil
              rw [if_pos (by rfl)]
              refine wp_store_row 25 (.tmp 15) (.tmp 99) rfl Yb xc rfl rfl 25 _ RY_u152.out (by rw [HZ_xc.out]; exact i12) (by rw [HZ_xc.out]; rfl) H1_xc.out ?_
              clear hHeld
              have RX_f : Hid (Rw (u152.setRow Yb xc) X xc 25) := Lib.hid ((setRow_block _ _ _ _ (Nat.ne_of_lt HYB.out.2.1)).trans RX_u152.out)
              have RF_f : Hid (Rw (u152.setRow Yb xc) F fc 25) := Lib.hid ((setRow_block _ _ _ _ (Nat.ne_of_lt HYB.out.2.2.1)).trans RF_u152.out)
              have RS_f : Hid (Rw (u152.setRow Yb xc) S xc 25) := Lib.hid ((setRow_block _ _ _ _ (Nat.ne_of_lt HYB.out.2.2.2)).trans RS_u152.out)
              have RY_f : Hid (Rw (u152.setRow Yb xc) Yb xc 25) := Lib.hid (RY_u152.out.set xc)
              have BT_f : Hid (Below w.heap.size w (u152.setRow Yb xc)) := Lib.hid (below_setRow BT_u152.out HYB.out.1 xc)
              refine hK.out _ _ ?_ (fun hHeld => ?_)
              · exact ⟨RX_f.out, RF_f.out, RS_f.out, trivial⟩
              clear hK K
              (try simp only [Act.put])
              refine wpAnyH_take (i := 14) (oi := { dst := some 16, op := Op.assign (Operand.tmp 100), type := 3, pos := "law.go:90", after := #[{ on := 11, ground := Ground.data }, { on := 13, ground := Ground.chain }, { on := 0, ground := Ground.phase }, { on := 1, ground := Ground.phase }, { on := 2, ground := Ground.phase }, { on := 3, ground := Ground.phase }, { on := 4, ground := Ground.phase }, { on := 5, ground := Ground.phase }, { on := 6, ground := Ground.phase }, { on := 7, ground := Ground.phase }, { on := 8, ground := Ground.phase }, { on := 9, ground := Ground.phase }, { on := 10, ground := Ground.phase }, { on := 11, ground := Ground.phase }, { on := 12, ground := Ground.phase }, { on := 13, ground := Ground.phase }], guard := none }) (v := ?_) rfl (by kernel_rfl) (by kernel_rfl) (by kernel_rfl) (fun _ _ _ h => h) (Or.inl ⟨by rfl, ?_⟩) hHeld ?_
              rotate_left
              · intro W hSw
                clear hSw
                first | (go_simp; done) | (go_simp; with_reducible rfl)
              (try simp only [Act.put, List.setIfInBounds_toArray, List.set_cons_zero, List.set_cons_succ])
              refine wpAnyH_done (by kernel_rfl) ?_ _
              go_wp2
              go_meet
              case rel => exact ⟨Yb, rfl, rfl, RX_f.out, RF_f.out, RS_f.out, RY_f.out, BT_f.out⟩
          case rest =>
            obtain ⟨G, rfl, rfl, h0, h1, h2, h3, h4⟩ := hcut
            clear R_X_10 R_F_10 R_S_10 BT10
            have R_X_11 := Lib.hid h0
            have R_F_11 := Lib.hid h1
            have R_S_11 := Lib.hid h2
            have R_G_11 := Lib.hid h3
            have BT11 := Lib.hid h4
            clear h0 h1 h2 h3 h4
            clear C14 bs1 ed
            go_upto_region 15 with (fail)
            refine name_w (fun W => Rw W X xc 25 ∧ Rw W F fc 25 ∧ Rw W S xc 25 ∧ Rw W G xc 25 ∧ Below w.heap.size w W) ⟨R_X_11.out, R_F_11.out, R_S_11.out, R_G_11.out, BT11.out⟩ ?_
            clear R_X_11 R_F_11 R_S_11 R_G_11 BT11
            rintro u12 ⟨h0, h1, h2, h3, h4⟩
            have R_X_12 := Lib.hid h0
            have R_F_12 := Lib.hid h1
            have R_S_12 := Lib.hid h2
            have R_G_12 := Lib.hid h3
            have BT12 := Lib.hid h4
            clear h0 h1 h2 h3 h4
            have g1 : IntKind.i64.wrap (at_ + YN) = at_ + YN := IntWalk.i64_in _ (by have h1 := HYN.out; have h2 := HAA.out; have h3 := HYL.out; have h4 := HAL.out; omega)
            have g2 : IntKind.i64.wrap (1 + YN) = 1 + YN := IntWalk.i64_in _ (by have h1 := HYN.out; have h3 := HYL.out; omega)
            have f2 : (XN == at_ + YN) = true := by rw [HXY.out]; simp
            have f3 : (AN == 1 + YN) = true := by rw [HANE.out, HYN.out]; simp; omega
            go_wp2_with (first | (refine wpList_load_any (by rfl) 25 (.tmp 9) rfl X rfl 25 xc (0, 0) _ R_X_12.out Try.underlying25 rfl (by rw [HZ_xc.out]; exact i12) ?_) | (refine wpList_load_any (by rfl) 25 (.tmp 13) rfl S rfl 25 xc (0, 0) _ R_S_12.out Try.underlying25 rfl (by rw [HZ_xc.out]; exact i12) ?_) | (refine wpList_load_any (by rfl) 25 (.tmp 15) rfl G rfl 25 xc (0, 0) _ R_G_12.out Try.underlying25 rfl (by rw [HZ_xc.out]; exact i12) ?_))
            go_ret
            exact ⟨rfl, BT12.out⟩

/-! From the walk to the given row. -/
set_option maxRecDepth 100000 in
theorem lifted (os : Os) (started : os.Started) (H : Type) (enc : TypeId × Value → H) :
    ReturnsInHanded {} Try.checked os 8 .any (Rows.foldSnapsSpec.pre6 enc Try.prog Try.f8 Rows.foldSnapsRow.domain false) (Rows.foldSnapsSpec.post enc Try.prog Try.f8 false true false false) := by
  refine returnsInHanded_of_change (C := Try.checked) t_own started (by kernel_rfl) Try.func8
    (ChangeSpec.witness6 (enc := enc) (C := Try.checked) false ⟨#[], #[stV zeroS, .slice none 0 0, .int .i64 0], []⟩ 8 (by kernel_rfl) (by kernel_rfl) (by kernel_rfl) (by kernel_rfl)) ?_
  intro W base args ds gs before hval0 hW hcnd _
  have hval : ∀ (j : Nat) t v, Try.f8.params[j]? = some t → args[j]? = some v → Value.okWide Try.prog W .any base t v := hval0
  have hW' := hW
  obtain ⟨p, q, hA0, hV, rfl, hfz, hnd⟩ := hW
  have hA : DataW.TrodAll enc Try.prog W 0 (fun _ => true) true Try.f8.params.toList args.toList ds p := hA0
  rw [Try.params8] at hA hval
  obtain ⟨v0, vs0, d0, ds0, p0, q0, hargs, rfl, rfl, h0, r0⟩ := trodAll_cons hA
  obtain ⟨v1, vs1, d1, ds1, p1, q1, rfl, rfl, rfl, h1, r1⟩ := trodAll_cons r0
  obtain ⟨v2, vs2, d2, ds2, p2, q2, rfl, rfl, rfl, h2, r2⟩ := trodAll_cons r1
  obtain ⟨rfl, rfl, rfl⟩ := trodAll_nil r2
  obtain rfl : args = #[v0, v1, v2] := by cases args; simp_all
  obtain ⟨s, rfl, hs⟩ := open_state (hval 0 25 v0 rfl rfl) h0
  obtain ⟨rs, hrs, hf⟩ := open_recsI (hval 1 33 v1 rfl rfl) h1
  obtain ⟨n, rfl, rfl, rfl, hn⟩ := open_int Try.underlying3 (hval 2 3 v2 rfl rfl) h2
  refine (walk s v1 rs n W hs hrs hf (bounds_i64 hn)).mono fun e W' ⟨he, hb⟩ => ?_
  subst he
  exact ⟨_, rfl, post_of_holds hW' (by kernel_rfl) rfl (by rw [Try.params8]; exact fun t ht => params_ok t (by simp at ht; rcases ht with rfl | rfl | rfl <;> simp)) ⟨rfl, rfl, rfl⟩ hb⟩

/-- The given statement. -/
theorem proved : Rows.FoldSnapsSaid :=
  OpenClaim.holds_of_wide 8 Try.f8 rfl rfl rfl rfl rfl rfl rfl ⟨rfl, rfl, rfl, rfl, rfl⟩ rfl rfl rfl rfl rfl (by kernel_rfl) Try.func8 (by kernel_rfl)
    (of_decide_eq_true (by kernel_rfl)) (by unfold Func.isWrapper; first | (rw [if_pos (by decide +kernel)]; kernel_rfl) | (rw [if_neg (by decide +kernel)]; exact ⟨rfl, rfl⟩))
    (fun os started H enc _ => lifted os started H enc)
#print axioms proved
end Go.Proofs.Ytoeelglmdnhknaa.foldSnaps
