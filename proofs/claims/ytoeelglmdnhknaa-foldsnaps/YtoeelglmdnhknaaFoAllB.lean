/-
  What package fold's All answers (more ways).
-/
import Derived.Test.YtoeelglmdnhknaaFoAllA
namespace Go.Proofs.Ytoeelglmdnhknaa
open Go.RowKit

set_option maxRecDepth 100000 in
set_option maxHeartbeats 4000000 in
theorem all_other (s : St) (rs : List Rc) (b o c : Nat) (w : World) (hn : rs.length ≤ 1000) (_hc : rs.length ≤ c) (hbl : b < w.heap.size) (hrs : ∀ k (h : k < rs.length), w.rangeAt b (o + k * 19) (recC rs[k]).toList) (hfr : ∀ r ∈ rs, Fits r.kind) (r1 : Rc) (h1 : rs[0]? = some r1) (hk : r1.kind ≠ 11) : Calls Try.prog 16 #[stV s, .slice (some ⟨b, o, none⟩) rs.length c] w (AllR (allS s rs) w) := by
  have HRS := Lib.hid hrs
  have HFR := Lib.hid hfr
  have HBL := Lib.hid hbl
  unfold stV
  obtain ⟨cs, hcs⟩ : ∃ c, c = stC s := ⟨_, rfl⟩
  rw [← hcs]
  have HC := Lib.hid hcs
  have HZC : Hid (cs.size = 12) := Lib.hid (by rw [hcs]; rfl)
  have H1C : Hid (cs.all (·.oneCell') = true) := Lib.hid (by rw [hcs]; exact stC_one _)
  clear hrs hfr hbl hcs
  have h0 : 0 < rs.length := (List.getElem?_eq_some_iff.1 h1).1
  have HPOS := Lib.hid h1
  have HR1 : Hid (w.rangeAt b o (recC r1).toList) := Lib.hid (by have h := HRS.out 0 h0; rw [(List.getElem?_eq_some_iff.1 h1).2] at h; simpa using h)
  clear h1
  have f0 : decide (0 < rs.length) = true := by simpa using h0
  have f1 : decide ((0 : Int) < (rs.length : Int)) = true := by simpa using h0
  have HKK := Lib.hid hk
  obtain ⟨kd, hkd⟩ : ∃ k, k = r1.kind := ⟨_, rfl⟩
  have HKD := Lib.hid hkd
  have f2 : (kd == 11) = false := by rw [hkd]; simpa using hk
  clear hkd hk
  go_enter Try.func16, Try.ntmps16
  go_upto_region 1 with (fail)
  refine name_w (fun W => Rw W w.heap.size cs 25 ∧ Rw W (w.heap.size + 1) zeroSC 25 ∧ Below w.heap.size w W) ⟨(Rw.new _ _ _).alloc _, heap_alloc2_new w _ _, ((Below.refl _ _).alloc (Nat.le_refl _) _).alloc (by simp) _⟩ ?_
  rintro u0 ⟨h1, h2, h3⟩
  have RA0 := Lib.hid h1
  have RZ0 := Lib.hid h2
  have BT0 := Lib.hid h3
  clear h1 h2 h3
  have q0 : u0.cell? ⟨b, o, none⟩ = some (.int .i64 kd) := (BT0.out.cell (p := ⟨b, o, none⟩) HBL.out).trans (by
    rw [HKD.out]
    have h := HR1.out 0 (.int .i64 r1.kind) rfl
    simpa using h)
  go_wp2_with fail
  refine (changes_any _).mono ?_
  rintro e u3 ⟨rfl, hT, hb⟩
  have RA3 : Hid (Rw u3 w.heap.size (stC s) 25) := Lib.hid (by have h := RA0.out.under hb RA0.out.lt; rw [HC.out] at h; exact h)
  have RZ3 := Lib.hid (RZ0.out.under hb RZ0.out.lt)
  have BT3 := Lib.hid (BT0.out.trans (hb.mono BT0.out.size))
  have HT3 := Lib.hid hT
  have HAM : Hid (w.heap.size < u0.heap.size) := Lib.hid RA0.out.lt
  obtain ⟨m, hm⟩ : ∃ m, m = u0.heap.size := ⟨_, rfl⟩
  rw [← hm] at HT3 HAM ⊢
  clear hm hT hb RA0 RZ0 BT0
  clear f0 f1 f2 q0 h0
  go_wp2
  have HALL : Hid (allS s rs = addN 0 (runS s rs)) := Lib.hid (allS_other HPOS.out HKK.out)
  go_loopg [6, 38] rs.length (fun m' c i wr => ∃ (k : Nat) (sk : St), Hid (m' = rs.length - k) ∧ k ≤ rs.length ∧ c = .int .i64 (k : Int) ∧ i = .int .i64 k ∧ Hid (runS s rs = addN k (runS sk (rs.drop k))) ∧ Hid (Rw wr w.heap.size (stC sk) 25) ∧ Hid (Rw wr (w.heap.size + 1) zeroSC 25) ∧ Hid (Tab m wr changesT 10) ∧ Hid (Below w.heap.size w wr))
  case atStart => exact ⟨0, s, Lib.hid rfl, Nat.zero_le _, rfl, rfl, Lib.hid rfl, RA3, RZ3, HT3, BT3⟩
  case round =>
    obtain ⟨k, sk, HG, hk, rfl, rfl, HP, RAk, RZk, HTk, BTk⟩ := hrel
    clear RA3 RZ3 HT3 BT3
    obtain ⟨ck, hck⟩ : ∃ c, c = stC sk := ⟨_, rfl⟩
    rw [← hck] at RAk
    have HCK := Lib.hid hck
    have HZK : Hid (ck.size = 12) := Lib.hid (by rw [hck]; rfl)
    have H1K : Hid (ck.all (·.oneCell') = true) := Lib.hid (by rw [hck]; exact stC_one _)
    by_cases hlt : k < rs.length
    case pos =>
      obtain ⟨x, hx⟩ : ∃ x, x = stepS sk rs[k] := ⟨_, rfl⟩
      obtain ⟨rc, hrc⟩ : ∃ c, c = recC rs[k] := ⟨_, rfl⟩
      obtain ⟨xc, hxc⟩ : ∃ c, c = stC x.1 := ⟨_, rfl⟩
      obtain ⟨xb, hxb⟩ : ∃ b, b = x.2 := ⟨_, rfl⟩
      have HX := Lib.hid hx
      have HXC := Lib.hid hxc
      have HXB := Lib.hid hxb
      have HZX : Hid (xc.size = 12) := Lib.hid (by rw [hxc]; rfl)
      have H1X : Hid (xc.all (·.oneCell') = true) := Lib.hid (by rw [hxc]; exact stC_one _)
      have HZR : Hid (rc.size = 19) := Lib.hid (by rw [hrc]; rfl)
      have H1R : Hid (rc.all (·.oneCell') = true) := Lib.hid (by rw [hrc]; exact recC_one _)
      have HRG : Hid (wr.rangeAt b (o + k * 19) rc.toList) := Lib.hid (by rw [hrc]; exact rangeAt_under (HRS.out k hlt) BTk.out HBL.out)
      have HSB : Hid (∀ W, Tab m W changesT 10 → Calls Try.prog 19 #[.map (some m), .agg ck, .agg rc] W fun e w' => e = .returned (.tuple #[.agg xc, .bool xb]) ∧ Below W.heap.size W w') := Lib.hid (fun W h => by
        have h1 := stepBy_any m 10 sk rs[k] W h (HFR.out _ (List.getElem_mem hlt))
        rw [← hx] at h1
        unfold StepR stV recV at h1
        rw [← hck, ← hrc, ← hxc, ← hxb] at h1
        exact h1)
      clear hx hxc hxb hrc hck
      go_upto_region 8 with (first | (refine wpList_load_midany (by rfl) 27 (.tmp 40) rfl b (o + k * 19) rfl rc _ HRG.out Try.underlying27 rfl (by rw [HZR.out]; exact i19) ?_) | (refine wpList_plain rfl fun _ hK => wp_store_row 27 (.tmp 9) (.tmp 41) rfl wr.heap.size rc rfl rfl 27 _ (Rw.new wr _ 27) (by rw [HZR.out]; exact i19) (by rw [HZR.out]; rfl) H1R.out (hK _ _ ?_); clear hK))
      obtain ⟨Xb, hXb⟩ : ∃ X, X = wr.heap.size := ⟨_, rfl⟩
      rw [← hXb]
      refine name_w (fun W => Rw W w.heap.size ck 25 ∧ Rw W (w.heap.size + 1) zeroSC 25 ∧ Rw W Xb rc 27 ∧ Tab m W changesT 10 ∧ Below w.heap.size w W) ?_ ?_
      · have hz := RZk.out.lt
        have ba := (Below.refl wr.heap.size wr).alloc (Nat.le_refl _) (.cells (zeroRC) 27)
        have bb := below_setRow ba (Nat.le_refl _) (b := wr.heap.size) rc
        rw [hXb]
        exact ⟨RAk.out.under bb RAk.out.lt, RZk.out.under bb hz, (Rw.new wr _ 27).set rc, HTk.out.under bb, BTk.out.trans (bb.mono BTk.out.size)⟩
      clear hXb RAk RZk HTk BTk HRG
      rintro u4 ⟨h1, h2, h3, h4, h5⟩
      have RA4 := Lib.hid h1
      have RZ4 := Lib.hid h2
      have RX4 := Lib.hid h3
      have HS4 := Lib.hid (HSB.out u4 h4)
      have HT4 := Lib.hid h4
      have BT4 := Lib.hid h5
      clear h1 h2 h3 h4 h5 HSB
      go_wp2_with (first | (refine wpList_load_row rfl 25 (.tmp 2) rfl w.heap.size rfl 25 ck (0, 0) _ RA4.out Try.underlying25 rfl (by rw [HZK.out]; exact i12) ?_) | (refine wpList_load_row rfl 27 (.tmp 9) rfl Xb rfl 27 rc (0, 0) _ RX4.out Try.underlying27 rfl (by rw [HZR.out]; exact i19) ?_))
      refine HS4.out.mono ?_
      rintro e u5 ⟨rfl, hb⟩
      have RA5 := Lib.hid (RA4.out.under hb RA4.out.lt)
      have RZ5 := Lib.hid (RZ4.out.under hb RZ4.out.lt)
      have HT5 := Lib.hid (HT4.out.under hb)
      have BT5 := Lib.hid (BT4.out.trans (hb.mono BT4.out.size))
      clear hb RA4 RZ4 RX4 HS4 HT4 BT4
      go_upto_region 9 with (refine wpList_plain rfl fun _ hK => wp_store_row 25 (.tmp 10) (.tmp 47) rfl u5.heap.size xc rfl rfl 25 _ (Rw.new u5 _ 25) (by rw [HZX.out]; exact i12) (by rw [HZX.out]; rfl) H1X.out (hK _ _ ?_); clear hK)
      obtain ⟨Yb, hYb⟩ : ∃ X, X = u5.heap.size := ⟨_, rfl⟩
      rw [← hYb]
      refine name_w (fun W => Rw W w.heap.size ck 25 ∧ Rw W (w.heap.size + 1) zeroSC 25 ∧ Rw W Yb xc 25 ∧ Tab m W changesT 10 ∧ Below w.heap.size w W) ?_ ?_
      · have hz := RZ5.out.lt
        have ba := (Below.refl u5.heap.size u5).alloc (Nat.le_refl _) (.cells zeroSC 25)
        have bb := below_setRow ba (Nat.le_refl _) (b := u5.heap.size) xc
        rw [hYb]
        exact ⟨RA5.out.under bb RA5.out.lt, RZ5.out.under bb hz, (Rw.new u5 _ 25).set xc, HT5.out.under bb, BT5.out.trans (bb.mono BT5.out.size)⟩
      clear hYb RA5 RZ5 HT5 BT5
      rintro u6 ⟨h1, h2, h3, h4, h5⟩
      have RA6 := Lib.hid h1
      have RZ6 := Lib.hid h2
      have RX6 := Lib.hid h3
      have HT6 := Lib.hid h4
      have BT6 := Lib.hid h5
      clear h1 h2 h3 h4 h5
      cases xb with
      | false =>
        have HE : Hid (allS s rs = (sk, k + 0)) := Lib.hid (by rw [HALL.out, HP.out, drop_at hlt, runS_no (by rw [← HX.out, ← HXB.out]), addN_add]; unfold addN; simp only [Prod.mk.injEq, true_and]; omega)
        have ZF := Lib.hid (RZ6.out.set ck)
        have BF := Lib.hid (below_setRow BT6.out (by omega) (b := w.heap.size + 1) ck)
        go_upto_region 13 with (fail)
        go_wp2_with (first | (refine wpList_load_row rfl 25 (.tmp 2) rfl w.heap.size rfl 25 ck (0, 0) _ RA6.out Try.underlying25 rfl (by rw [HZK.out]; exact i12) ?_) | (refine wpList_plain rfl fun _ hK => wp_store_row 25 (.tmp 4) (.tmp 55) rfl (w.heap.size + 1) ck rfl rfl 25 _ RZ6.out (by rw [HZK.out]; exact i12) (by rw [HZK.out]; rfl) H1K.out (hK _ _ ?_); clear hK))
        (try simp only [Exit.inBlock, Exit.then])
        refine bodyPost_ret (results_cell_tmp rfl _ _ (w.heap.size + 1) 25 ck (0, 0) _ rfl ZF.out Try.underlying25 rfl (by rw [HZK.out]; exact i12)) rfl ?_
        exact ⟨by rw [HE.out, HCK.out]; rfl, BF.out⟩
      | true =>
        have HN : Hid (runS s rs = addN (k + 1) (runS x.1 (rs.drop (k + 1)))) := Lib.hid (by rw [HP.out, drop_at hlt, runS_yes (by rw [← HX.out, ← HXB.out]), ← HX.out, addN_add])
        go_upto_region 11 with (first | (refine wpList_load_row rfl 25 (.tmp 10) rfl Yb rfl 25 xc (0, 0) _ RX6.out Try.underlying25 rfl (by rw [HZX.out]; exact i12) ?_) | (refine wpList_plain rfl fun _ hK => wp_store_row 25 (.tmp 2) (.tmp 51) rfl w.heap.size xc rfl rfl 25 _ RA6.out (by rw [HZX.out]; exact i12) (by rw [HZX.out]; first | exact HZK.out | exact HZK.out.symm) H1X.out (hK _ _ ?_); clear hK))
        refine name_w (fun W => Rw W w.heap.size (stC x.1) 25 ∧ Rw W (w.heap.size + 1) zeroSC 25 ∧ Tab m W changesT 10 ∧ Below w.heap.size w W) ⟨by rw [← HXC.out]; exact RA6.out.set xc, (setRow_block _ _ _ _ (by omega)).trans RZ6.out, HT6.out.setRow HAM.out xc, below_setRow BT6.out (Nat.le_refl _) xc⟩ ?_
        rintro u7 ⟨h1, h2, h3, h4⟩
        have RA7 := Lib.hid h1
        have RZ7 := Lib.hid h2
        have HT7 := Lib.hid h3
        have BT7 := Lib.hid h4
        clear h1 h2 h3 h4 RA6 RZ6 RX6 HT6 BT6
        go_wp2
        go_roundg (rs.length - (k + 1))
        case measure => have := HG.out; omega
        case rel => exact ⟨k + 1, x.1, Lib.hid rfl, by omega, by first | (simp; done) | (simp; omega), by simp, HN, RA7, RZ7, HT7, BT7⟩
    have HE : Hid (allS s rs = (sk, k + 0)) := Lib.hid (by
      rw [HALL.out, HP.out, List.drop_eq_nil_of_le (by omega), runS, addN_add]
      unfold addN
      simp only [Prod.mk.injEq, true_and]
      omega)
    clear hck
    have ZF := Lib.hid (RZk.out.set ck)
    have BF := Lib.hid (below_setRow BTk.out (by omega) (b := w.heap.size + 1) ck)
    go_upto_region 13 with (fail)
    go_wp2_with (first | (refine wpList_load_row rfl 25 (.tmp 2) rfl w.heap.size rfl 25 ck (0, 0) _ RAk.out Try.underlying25 rfl (by rw [HZK.out]; exact i12) ?_) | (refine wpList_plain rfl fun _ hK => wp_store_row 25 (.tmp 4) (.tmp 55) rfl (w.heap.size + 1) ck rfl rfl 25 _ RZk.out (by rw [HZK.out]; exact i12) (by rw [HZK.out]; rfl) H1K.out (hK _ _ ?_); clear hK))
    (try simp only [Exit.inBlock, Exit.then])
    refine bodyPost_ret (results_cell_tmp rfl _ _ (w.heap.size + 1) 25 ck (0, 0) _ rfl ZF.out Try.underlying25 rfl (by rw [HZK.out]; exact i12)) rfl ?_
    exact ⟨by rw [HE.out, HCK.out]; rfl, BF.out⟩
end Go.Proofs.Ytoeelglmdnhknaa
