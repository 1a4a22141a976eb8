/-
  What package fold's All answers (more ways).
-/
import Derived.Test.YtoeelglmdnhknaaFoAllA
namespace Go.Proofs.Ytoeelglmdnhknaa
open Go.RowKit

set_option maxRecDepth 100000 in
set_option maxHeartbeats 4000000 in
theorem all_snap1 (s : St) (r1 : Rc) (rest : List Rc) (b o : Nat) (w : World) (hn : rest.length ≤ 1000) (_hc : rest.length + 1 ≤ 1) (hbl : b < w.heap.size) (hrs : ∀ k (h : k < rest.length), w.rangeAt b (o + k * 19) (recC rest[k]).toList) (hr1 : w.rangeAt b o (recC r1).toList) (hfr : ∀ r ∈ rest, Fits r.kind) (hk : r1.kind = 11) (hr : rightS r1.st = true) : Calls Try.prog 16 #[stV s, .slice (some ⟨b, o, none⟩) (rest.length + 1) 1] w (AllR (allS s (r1 :: rest)) w) := by
  have HRS := Lib.hid hrs
  have HFR := Lib.hid hfr
  have HBL := Lib.hid hbl
  unfold stV
  obtain ⟨cs, hcs⟩ : ∃ c, c = stC s := ⟨_, rfl⟩
  rw [← hcs]
  have HC := Lib.hid hcs
  have HZC : Hid (cs.size = 12) := Lib.hid (by rw [hcs]; rfl)
  have H1C : Hid (cs.all (·.oneCell') = true) := Lib.hid (by rw [hcs]; exact stC_one _)
  have HKK := Lib.hid hk
  have HRR := Lib.hid hr
  have HR1 := Lib.hid hr1
  obtain ⟨kd, hkd⟩ : ∃ k, k = r1.kind := ⟨_, rfl⟩
  have HKD := Lib.hid hkd
  have f2 : (kd == 11) = true := by rw [hkd]; simpa using hk
  obtain ⟨sc, hsc⟩ : ∃ c, c = stC r1.st := ⟨_, rfl⟩
  have HSCE := Lib.hid hsc
  have HZS : Hid (sc.size = 12) := Lib.hid (by rw [hsc]; rfl)
  have H1S : Hid (sc.all (·.oneCell') = true) := Lib.hid (by rw [hsc]; exact stC_one _)
  have HRT : Hid (∀ W, Calls Try.prog 14 #[.agg sc] W fun e w' => e = .returned (.bool true) ∧ Below W.heap.size W w') := Lib.hid (fun W => by
    have h := right_any r1.st W
    rw [hr] at h
    rw [hsc]
    exact h)
  have f0 : decide (0 < rest.length + 1) = true := by simp
  clear hrs hfr hbl hcs hkd hk hr hsc hr1
  go_enter Try.func16, Try.ntmps16
  go_upto_region 1 with (fail)
  refine name_w (fun W => Rw W w.heap.size cs 25 ∧ Rw W (w.heap.size + 1) zeroSC 25 ∧ Below w.heap.size w W) ⟨(Rw.new _ _ _).alloc _, heap_alloc2_new w _ _, ((Below.refl _ _).alloc (Nat.le_refl _) _).alloc (by simp) _⟩ ?_
  rintro u0 ⟨h1, h2, h3⟩
  have RA0 := Lib.hid h1
  have RZ0 := Lib.hid h2
  have BT0 := Lib.hid h3
  clear h1 h2 h3
  have q0 : u0.cell? ⟨b, o, none⟩ = some (.int .i64 kd) := (BT0.out.cell (p := ⟨b, o, none⟩) HBL.out).trans (by
    rw [HKD.out]
    have h := HR1.out 0 (.int .i64 r1.kind) rfl
    simpa using h)
  have HSC : Hid (u0.rangeAt b (o + 7) sc.toList) := Lib.hid (by
    rw [HSCE.out]
    have h := rangeAt_drop (rangeAt_under HR1.out BT0.out HBL.out) 7
    rw [recC_st] at h
    simpa using h)
  go_wp2_with (refine wpList_load_midany (by rfl) 25 (.tmp 25) rfl b (o + 7) rfl sc _ HSC.out Try.underlying25 rfl (by rw [HZS.out]; exact i12) ?_)
  refine (HRT.out _).mono ?_
  rintro e u1 ⟨rfl, hb⟩
  have RA1 := Lib.hid (RA0.out.under hb RA0.out.lt)
  have RZ1 := Lib.hid (RZ0.out.under hb RZ0.out.lt)
  have BT1 := Lib.hid (BT0.out.trans (hb.mono BT0.out.size))
  clear hb HRT
  have HSD : Hid (u1.rangeAt b (o + 7) sc.toList) := Lib.hid (by
    rw [HSCE.out]
    have h := rangeAt_drop (rangeAt_under HR1.out BT1.out HBL.out) 7
    rw [recC_st] at h
    exact h)
  go_upto_region 4 with (first | (refine wpList_load_midany (by rfl) 25 (.tmp 31) rfl b (o + 7) rfl sc _ HSD.out Try.underlying25 rfl (by rw [HZS.out]; exact i12) ?_) | (refine wpList_plain rfl fun _ hK => wp_store_row 25 (.tmp 2) (.tmp 32) rfl w.heap.size sc rfl rfl 25 _ RA1.out (by rw [HZS.out]; exact i12) (by rw [HZS.out]; first | exact HZC.out | exact HZC.out.symm) H1S.out (hK _ _ ?_); clear hK))
  refine name_w (fun W => Rw W w.heap.size (stC r1.st) 25 ∧ Rw W (w.heap.size + 1) zeroSC 25 ∧ Below w.heap.size w W) ⟨by rw [← HSCE.out]; exact RA1.out.set sc, (setRow_block _ _ _ _ (by omega)).trans RZ1.out, below_setRow BT1.out (Nat.le_refl _) sc⟩ ?_
  rintro u2 ⟨h1, h2, h3⟩
  have RA2 := Lib.hid h1
  have RZ2 := Lib.hid h2
  have BT2 := Lib.hid h3
  clear h1 h2 h3 RA1 RZ1 BT1 RA0 RZ0 BT0 HSC HSD q0 f2 f0
  go_wp2_with fail
  refine (changes_any _).mono ?_
  rintro e u3 ⟨rfl, hT, hb⟩
  have RA3 : Hid (Rw u3 w.heap.size (stC r1.st) 25) := Lib.hid (by have h := RA2.out.under hb RA2.out.lt; exact h)
  have RZ3 := Lib.hid (RZ2.out.under hb RZ2.out.lt)
  have BT3 := Lib.hid (BT2.out.trans (hb.mono BT2.out.size))
  have HT3 := Lib.hid hT
  have HAM : Hid (w.heap.size < u2.heap.size) := Lib.hid RA2.out.lt
  obtain ⟨m, hm⟩ : ∃ m, m = u2.heap.size := ⟨_, rfl⟩
  rw [← hm] at HT3 HAM ⊢
  clear hm hT hb RA2 RZ2 BT2
  go_wp2
  have HALL : Hid (allS s (r1 :: rest) = addN 1 (runS r1.st rest)) := Lib.hid (allS_snap HKK.out HRR.out)
  go_loopg [6, 38] rest.length (fun m' c i wr => ∃ (k : Nat) (sk : St), Hid (m' = rest.length - k) ∧ k ≤ rest.length ∧ c = .int .i64 ((k + 1 : Nat) : Int) ∧ i = .int .i64 k ∧ Hid (runS r1.st rest = addN k (runS sk (rest.drop k))) ∧ Hid (Rw wr w.heap.size (stC sk) 25) ∧ Hid (Rw wr (w.heap.size + 1) zeroSC 25) ∧ Hid (Tab m wr changesT 10) ∧ Hid (Below w.heap.size w wr))
  case atStart => exact ⟨0, r1.st, Lib.hid rfl, Nat.zero_le _, rfl, rfl, Lib.hid rfl, RA3, RZ3, HT3, BT3⟩
  case round =>
    obtain ⟨k, sk, HG, hk, rfl, rfl, HP, RAk, RZk, HTk, BTk⟩ := hrel
    clear RA3 RZ3 HT3 BT3
    obtain ⟨ck, hck⟩ : ∃ c, c = stC sk := ⟨_, rfl⟩
    rw [← hck] at RAk
    have HCK := Lib.hid hck
    have HZK : Hid (ck.size = 12) := Lib.hid (by rw [hck]; rfl)
    have H1K : Hid (ck.all (·.oneCell') = true) := Lib.hid (by rw [hck]; exact stC_one _)
    by_cases hlt : k < rest.length
    case pos =>
      exfalso
      omega
    have HE : Hid (allS s (r1 :: rest) = (sk, k + 1)) := Lib.hid (by
      rw [HALL.out, HP.out, List.drop_eq_nil_of_le (by omega), runS, addN_add]
      unfold addN
      simp only [Prod.mk.injEq, true_and]
      omega)
    clear hck
    have ZF := Lib.hid (RZk.out.set ck)
    have BF := Lib.hid (below_setRow BTk.out (by omega) (b := w.heap.size + 1) ck)
    go_upto_region 13 with (fail)
    go_wp2_with (first | (refine wpList_load_row rfl 25 (.tmp 2) rfl w.heap.size rfl 25 ck (0, 0) _ RAk.out Try.underlying25 rfl (by rw [HZK.out]; exact i12) ?_) | (refine wpList_plain rfl fun _ hK => wp_store_row 25 (.tmp 4) (.tmp 55) rfl (w.heap.size + 1) ck rfl rfl 25 _ RZk.out (by rw [HZK.out]; exact i12) (by rw [HZK.out]; rfl) H1K.out (hK _ _ ?_); clear hK))
    (try simp only [Exit.inBlock, Exit.then])
    refine bodyPost_ret (results_cell_tmp rfl _ _ (w.heap.size + 1) 25 ck (0, 0) _ rfl ZF.out Try.underlying25 rfl (by rw [HZK.out]; exact i12)) rfl ?_
    exact ⟨by rw [HE.out, HCK.out]; rfl, BF.out⟩
end Go.Proofs.Ytoeelglmdnhknaa
