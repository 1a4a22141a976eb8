/-
  What the document's own Step answers, of the Kinds 9.
-/
import Derived.Test.YtoeelglmdnhknaaStStep
namespace Go.Proofs.Ytoeelglmdnhknaa
open Go.RowKit

set_option maxRecDepth 100000 in
set_option maxHeartbeats 8000000 in
theorem mstep_9 (s : St) (r : Rc) (w : World) (hr : rightS s = true) (hk : r.kind = 9) : Calls Try.prog 12 #[stV s, recV r] w (StepR (step9 s r) w) := by
  obtain ⟨ph, ac, r0, r1, w0, w1, p0, p1, dl, gn, sw, fl⟩ := s
  obtain ⟨kind, rev, cnt, delay, gen, tick, pass, st⟩ := r
  obtain ⟨hac, hp0, hp7, hg0, hg1, hs0, hs2⟩ := right_in hr
  simp only at hac hp0 hp7 hg0 hg1 hs0 hs2
  have ha0 : 0 ≤ ac := by omega
  have ha1 : ac ≤ 1 := by omega
  have HRT : Hid (∀ W, Calls Try.prog 15 #[stV (⟨ph, ac, r0, r1, w0, w1, p0, p1, dl, gn, sw, fl⟩ : St)] W fun e w' => e = .returned (.bool true) ∧ Below W.heap.size W w') := Lib.hid (fun W => by
    have h1 := mright_any (⟨ph, ac, r0, r1, w0, w1, p0, p1, dl, gn, sw, fl⟩ : St) W
    rw [hr] at h1
    exact h1)
  obtain rfl : kind = 9 := hk
  have HPK : Hid (∀ (n : St) W, (Calls Try.prog 21 #[stV (⟨ph, ac, r0, r1, w0, w1, p0, p1, dl, gn, sw, fl⟩ : St), stV n, .bool true] W fun e w' => e = .returned (.tuple #[stV n, .bool true]) ∧ Below W.heap.size W w') ∧ (Calls Try.prog 21 #[stV (⟨ph, ac, r0, r1, w0, w1, p0, p1, dl, gn, sw, fl⟩ : St), stV n, .bool false] W fun e w' => e = .returned (.tuple #[stV (⟨ph, ac, r0, r1, w0, w1, p0, p1, dl, gn, sw, fl⟩ : St), .bool false]) ∧ Below W.heap.size W w')) := Lib.hid (fun n W => ⟨mpick_any _ n true W, mpick_any _ n false W⟩)
  unfold stV at HRT HPK ⊢
  unfold recV
  obtain ⟨cs, hcs⟩ : ∃ c, c = stC (⟨ph, ac, r0, r1, w0, w1, p0, p1, dl, gn, sw, fl⟩ : St) := ⟨_, rfl⟩
  obtain ⟨rs, hrs⟩ : ∃ c, c = recC (⟨9, rev, cnt, delay, gen, tick, pass, st⟩ : Rc) := ⟨_, rfl⟩
  have HZC : Hid (cs.size = 12) := Lib.hid (by rw [hcs]; rfl)
  have H1C : Hid (cs.all (·.oneCell') = true) := Lib.hid (by rw [hcs]; exact stC_one _)
  have HZS : Hid (zeroSC.size = 12) := Lib.hid rfl
  rw [← hcs] at HRT HPK ⊢
  rw [← hrs]
  have HC := Lib.hid hcs
  have HRR := Lib.hid hrs
  clear hcs hrs hr hac
  go_enter Try.func12, Try.ntmps12
  go_upto_region 1 with (fail)
  refine name_w (fun W => Rw W w.heap.size cs 25 ∧ Rw W (w.heap.size + 1) rs 27 ∧ Rw W (w.heap.size + 1 + 1) zeroSC 25 ∧ Below w.heap.size w W) ⟨((Rw.new _ _ _).alloc _).alloc _, Rw.alloc (heap_alloc2_new w _ _) _, ?_, (((Below.refl _ _).alloc (Nat.le_refl _) _).alloc (by simp) _).alloc (by simp; omega) _⟩ ?_
  · have h1 := Rw.new ((w.alloc (.cells cs 25)).alloc (.cells rs 27)) zeroSC 25
    rw [size_alloc, size_alloc] at h1
    exact h1
  rintro u0 ⟨hA, hB, hZ, hb⟩
  have RA0 := Lib.hid hA
  have RB0 := Lib.hid hB
  have RZ0 := Lib.hid hZ
  have BT0 := Lib.hid hb
  clear hA hB hZ hb
  go_wp2_with (refine wpList_load_row rfl 25 (.tmp 2) rfl w.heap.size rfl 25 cs (0, 0) _ RA0.out Try.underlying25 rfl (by rw [HZC.out]; exact i12) ?_)
  refine (HRT.out _).mono ?_
  rintro e u1 ⟨rfl, hb⟩
  have RA1 := Lib.hid (RA0.out.under hb RA0.out.lt)
  have RB1 := Lib.hid (RB0.out.under hb RB0.out.lt)
  have RZ1 := Lib.hid (RZ0.out.under hb RZ0.out.lt)
  have BT1 := Lib.hid (BT0.out.trans (hb.mono BT0.out.size))
  clear hb RA0 RB0 RZ0 BT0 HRT
  go_upto_region 4 with (first | (refine wpList_load_row rfl 25 (.tmp 2) rfl w.heap.size rfl 25 cs (0, 0) _ RA1.out Try.underlying25 rfl (by rw [HZC.out]; exact i12) ?_) | (refine wpList_plain rfl fun _ hK => wp_store_row 25 (.tmp 6) (.tmp 12) rfl u1.heap.size cs rfl rfl 25 _ (Rw.new u1 _ 25) (by rw [HZC.out]; exact i12) (by rw [HZC.out]; rfl) H1C.out (hK _ _ ?_); clear hK))
  refine name_w (fun W => Rw W u1.heap.size cs 25 ∧ Below u1.heap.size u1 W) ⟨(Rw.new u1 zeroSC 25).set cs, below_setRow ((Below.refl _ _).alloc (Nat.le_refl _) _) (Nat.le_refl _) _⟩ ?_
  rintro v0 ⟨hT, hb⟩
  have RT_v0 : Hid (Rw v0 u1.heap.size (stC (⟨ph, ac, r0, r1, w0, w1, p0, p1, dl, gn, sw, fl⟩ : St)) 25) := Lib.hid (by rw [← HC.out]; exact hT)
  have BV_v0 := Lib.hid hb
  clear hT hb
  have HLA : w.heap.size < u1.heap.size := RA1.out.lt
  have HLB : w.heap.size + 1 < u1.heap.size := RB1.out.lt
  have s0 : u1.cell? ⟨w.heap.size, 0, none⟩ = some (.int .i64 ph) := by rw [RA1.out.cell 0, HC.out]; rfl
  have s1 : u1.cell? ⟨w.heap.size, 1, none⟩ = some (.int .i64 ac) := by rw [RA1.out.cell 1, HC.out]; rfl
  have s9 : u1.cell? ⟨w.heap.size, 9, none⟩ = some (.int .i64 gn) := by rw [RA1.out.cell 9, HC.out]; rfl
  have s10 : u1.cell? ⟨w.heap.size, 10, none⟩ = some (.int .i64 sw) := by rw [RA1.out.cell 10, HC.out]; rfl
  have q0 : u1.cell? ⟨w.heap.size + 1, 0, none⟩ = some (.int .i64 9) := by rw [RB1.out.cell 0, HRR.out]; rfl
  have q1 : u1.cell? ⟨w.heap.size + 1, 1, none⟩ = some (.int .i64 rev) := by rw [RB1.out.cell 1, HRR.out]; rfl
  have q2 : u1.cell? ⟨w.heap.size + 1, 2, none⟩ = some (.int .i64 cnt) := by rw [RB1.out.cell 2, HRR.out]; rfl
  have q3 : u1.cell? ⟨w.heap.size + 1, 3, none⟩ = some (.int .i64 delay) := by rw [RB1.out.cell 3, HRR.out]; rfl
  have q4 : u1.cell? ⟨w.heap.size + 1, 4, none⟩ = some (.int .i64 gen) := by rw [RB1.out.cell 4, HRR.out]; rfl
  have q5 : u1.cell? ⟨w.heap.size + 1, 5, none⟩ = some (.int .i64 tick) := by rw [RB1.out.cell 5, HRR.out]; rfl
  have q6 : u1.cell? ⟨w.heap.size + 1, 6, none⟩ = some (.bool pass) := by rw [RB1.out.cell 6, HRR.out]; rfl
  cases pass
  case true =>
    have s0_v0 := (BV_v0.out.cell (p := ⟨w.heap.size, 0, none⟩) HLA).trans s0
    have s1_v0 := (BV_v0.out.cell (p := ⟨w.heap.size, 1, none⟩) HLA).trans s1
    have s9_v0 := (BV_v0.out.cell (p := ⟨w.heap.size, 9, none⟩) HLA).trans s9
    have s10_v0 := (BV_v0.out.cell (p := ⟨w.heap.size, 10, none⟩) HLA).trans s10
    have q0_v0 := (BV_v0.out.cell (p := ⟨w.heap.size + 1, 0, none⟩) HLB).trans q0
    have q1_v0 := (BV_v0.out.cell (p := ⟨w.heap.size + 1, 1, none⟩) HLB).trans q1
    have q2_v0 := (BV_v0.out.cell (p := ⟨w.heap.size + 1, 2, none⟩) HLB).trans q2
    have q3_v0 := (BV_v0.out.cell (p := ⟨w.heap.size + 1, 3, none⟩) HLB).trans q3
    have q4_v0 := (BV_v0.out.cell (p := ⟨w.heap.size + 1, 4, none⟩) HLB).trans q4
    have q5_v0 := (BV_v0.out.cell (p := ⟨w.heap.size + 1, 5, none⟩) HLB).trans q5
    have q6_v0 := (BV_v0.out.cell (p := ⟨w.heap.size + 1, 6, none⟩) HLB).trans q6
    have c_v0 : v0.cell? ⟨u1.heap.size, 0, none⟩ = some (.int .i64 ph) := by rw [RT_v0.out.cell 0]; rfl
    have fr_v0 := RT_v0.out.fr 0
    go_upto_region 52 with (fail)
    refine name_w (fun W => Rw W u1.heap.size (stC (⟨6, ac, r0, r1, w0, w1, p0, p1, dl, gn, sw, fl⟩ : St)) 25 ∧ Below u1.heap.size u1 W) ⟨heap_setCell_same _ _ 0 _ 25 (.int .i64 6) RT_v0.out, below_setCell BV_v0.out (Nat.le_refl _) _⟩ ?_
    clear c_v0 fr_v0
    clear s0_v0 s1_v0 s9_v0 s10_v0 q0_v0 q1_v0 q2_v0 q3_v0 q4_v0 q5_v0 q6_v0
    rintro v1 ⟨hT, hb⟩
    have RT_v1 := Lib.hid hT
    have BV_v1 := Lib.hid hb
    clear hT hb
    have s0_v1 := (BV_v1.out.cell (p := ⟨w.heap.size, 0, none⟩) HLA).trans s0
    have s1_v1 := (BV_v1.out.cell (p := ⟨w.heap.size, 1, none⟩) HLA).trans s1
    have s9_v1 := (BV_v1.out.cell (p := ⟨w.heap.size, 9, none⟩) HLA).trans s9
    have s10_v1 := (BV_v1.out.cell (p := ⟨w.heap.size, 10, none⟩) HLA).trans s10
    have q0_v1 := (BV_v1.out.cell (p := ⟨w.heap.size + 1, 0, none⟩) HLB).trans q0
    have q1_v1 := (BV_v1.out.cell (p := ⟨w.heap.size + 1, 1, none⟩) HLB).trans q1
    have q2_v1 := (BV_v1.out.cell (p := ⟨w.heap.size + 1, 2, none⟩) HLB).trans q2
    have q3_v1 := (BV_v1.out.cell (p := ⟨w.heap.size + 1, 3, none⟩) HLB).trans q3
    have q4_v1 := (BV_v1.out.cell (p := ⟨w.heap.size + 1, 4, none⟩) HLB).trans q4
    have q5_v1 := (BV_v1.out.cell (p := ⟨w.heap.size + 1, 5, none⟩) HLB).trans q5
    have q6_v1 := (BV_v1.out.cell (p := ⟨w.heap.size + 1, 6, none⟩) HLB).trans q6
    have c_v1 : v1.cell? ⟨u1.heap.size, 0, none⟩ = some (.int .i64 6) := by rw [RT_v1.out.cell 0]; rfl
    have fr_v1 := RT_v1.out.fr 0
    go_upto_region 54 with (fail)
    refine name_w (fun W => Rw W u1.heap.size (stC (⟨5, ac, r0, r1, w0, w1, p0, p1, dl, gn, sw, fl⟩ : St)) 25 ∧ Below u1.heap.size u1 W) ⟨heap_setCell_same _ _ 0 _ 25 (.int .i64 5) RT_v1.out, below_setCell BV_v1.out (Nat.le_refl _) _⟩ ?_
    clear c_v1 fr_v1
    clear s0_v1 s1_v1 s9_v1 s10_v1 q0_v1 q1_v1 q2_v1 q3_v1 q4_v1 q5_v1 q6_v1
    rintro v2 ⟨hT, hb⟩
    have RT_v2 := Lib.hid hT
    have BV_v2 := Lib.hid hb
    clear hT hb
    by_cases m1 : ph = 4
    case pos =>
      have s0_v2 := (BV_v2.out.cell (p := ⟨w.heap.size, 0, none⟩) HLA).trans s0
      have s1_v2 := (BV_v2.out.cell (p := ⟨w.heap.size, 1, none⟩) HLA).trans s1
      have s9_v2 := (BV_v2.out.cell (p := ⟨w.heap.size, 9, none⟩) HLA).trans s9
      have s10_v2 := (BV_v2.out.cell (p := ⟨w.heap.size, 10, none⟩) HLA).trans s10
      have q0_v2 := (BV_v2.out.cell (p := ⟨w.heap.size + 1, 0, none⟩) HLB).trans q0
      have q1_v2 := (BV_v2.out.cell (p := ⟨w.heap.size + 1, 1, none⟩) HLB).trans q1
      have q2_v2 := (BV_v2.out.cell (p := ⟨w.heap.size + 1, 2, none⟩) HLB).trans q2
      have q3_v2 := (BV_v2.out.cell (p := ⟨w.heap.size + 1, 3, none⟩) HLB).trans q3
      have q4_v2 := (BV_v2.out.cell (p := ⟨w.heap.size + 1, 4, none⟩) HLB).trans q4
      have q5_v2 := (BV_v2.out.cell (p := ⟨w.heap.size + 1, 5, none⟩) HLB).trans q5
      have q6_v2 := (BV_v2.out.cell (p := ⟨w.heap.size + 1, 6, none⟩) HLB).trans q6
      obtain ⟨ns, hns⟩ : ∃ c, c = stC (⟨5, ac, r0, r1, w0, w1, p0, p1, dl, gn, sw, fl⟩ : St) := ⟨_, rfl⟩
      have HZN : Hid (ns.size = 12) := Lib.hid (by rw [hns]; rfl)
      have H1N : Hid (ns.all (·.oneCell') = true) := Lib.hid (by rw [hns]; exact stC_one _)
      have HN := Lib.hid hns
      have RN : Hid (Rw v2 u1.heap.size ns 25) := Lib.hid (by rw [hns]; exact RT_v2.out)
      have HPN := Lib.hid (HPK.out (⟨5, ac, r0, r1, w0, w1, p0, p1, dl, gn, sw, fl⟩ : St))
      rw [← hns] at HPN
      clear hns
      have RAc := Lib.hid (RA1.out.under BV_v2.out HLA)
      have RZc := Lib.hid (RZ1.out.under BV_v2.out RZ1.out.lt)
      have BTc := Lib.hid (BT1.out.trans (BV_v2.out.mono BT1.out.size))
      have HE : Hid (step9 (⟨ph, ac, r0, r1, w0, w1, p0, p1, dl, gn, sw, fl⟩ : St) (⟨9, rev, cnt, delay, gen, tick, true, st⟩ : Rc) = ((⟨5, ac, r0, r1, w0, w1, p0, p1, dl, gn, sw, fl⟩ : St), true)) := Lib.hid (by unfold step9; exact pick_yes _ _ m1)
      have f1 : (ph == 4) = true := by simpa using m1
      clear m1
      have tokA : True := trivial
      have tokB : True := trivial
      go_wp2_with (first | (have _ta := tokA; refine wpList_load_row rfl 25 (.tmp 2) rfl w.heap.size rfl 25 cs (0, 0) _ RAc.out Try.underlying25 rfl (by rw [HZC.out]; exact i12) ?_; clear tokA _ta) | (have _tb := tokB; refine wpList_load_row rfl 25 (.tmp 6) rfl u1.heap.size rfl 25 ns (0, 0) _ RN.out Try.underlying25 rfl (by rw [HZN.out]; exact i12) ?_; clear tokB _tb))
      refine ((HPN.out _).1).mono ?_
      rintro e u9 ⟨rfl, hb⟩
      have RZ9 := Lib.hid (RZc.out.under hb RZc.out.lt)
      have BT9 := Lib.hid (BTc.out.trans (hb.mono BTc.out.size))
      clear hb
      have ZF := Lib.hid (RZ9.out.set ns)
      have BF := Lib.hid (below_setRow BT9.out (by omega) (b := w.heap.size + 1 + 1) ns)
      go_wp2_with (refine wpList_plain rfl fun _ hK => wp_store_row 25 (.tmp 4) (.tmp 294) rfl (w.heap.size + 1 + 1) ns rfl rfl 25 _ RZ9.out (by rw [HZN.out]; exact i12) (by rw [HZN.out]; rfl) H1N.out (hK _ _ ?_); clear hK)
      (try simp only [Exit.inBlock, Exit.then])
      refine bodyPost_ret (results_cell_tmp rfl _ _ (w.heap.size + 1 + 1) 25 ns (0, 0) _ rfl ZF.out Try.underlying25 rfl (by rw [HZN.out]; exact i12)) rfl ?_
      exact ⟨by rw [HE.out, HN.out]; rfl, BF.out⟩
    have s0_v2 := (BV_v2.out.cell (p := ⟨w.heap.size, 0, none⟩) HLA).trans s0
    have s1_v2 := (BV_v2.out.cell (p := ⟨w.heap.size, 1, none⟩) HLA).trans s1
    have s9_v2 := (BV_v2.out.cell (p := ⟨w.heap.size, 9, none⟩) HLA).trans s9
    have s10_v2 := (BV_v2.out.cell (p := ⟨w.heap.size, 10, none⟩) HLA).trans s10
    have q0_v2 := (BV_v2.out.cell (p := ⟨w.heap.size + 1, 0, none⟩) HLB).trans q0
    have q1_v2 := (BV_v2.out.cell (p := ⟨w.heap.size + 1, 1, none⟩) HLB).trans q1
    have q2_v2 := (BV_v2.out.cell (p := ⟨w.heap.size + 1, 2, none⟩) HLB).trans q2
    have q3_v2 := (BV_v2.out.cell (p := ⟨w.heap.size + 1, 3, none⟩) HLB).trans q3
    have q4_v2 := (BV_v2.out.cell (p := ⟨w.heap.size + 1, 4, none⟩) HLB).trans q4
    have q5_v2 := (BV_v2.out.cell (p := ⟨w.heap.size + 1, 5, none⟩) HLB).trans q5
    have q6_v2 := (BV_v2.out.cell (p := ⟨w.heap.size + 1, 6, none⟩) HLB).trans q6
    obtain ⟨ns, hns⟩ : ∃ c, c = stC (⟨5, ac, r0, r1, w0, w1, p0, p1, dl, gn, sw, fl⟩ : St) := ⟨_, rfl⟩
    have HZN : Hid (ns.size = 12) := Lib.hid (by rw [hns]; rfl)
    have H1N : Hid (ns.all (·.oneCell') = true) := Lib.hid (by rw [hns]; exact stC_one _)
    have HN := Lib.hid hns
    have RN : Hid (Rw v2 u1.heap.size ns 25) := Lib.hid (by rw [hns]; exact RT_v2.out)
    have HPN := Lib.hid (HPK.out (⟨5, ac, r0, r1, w0, w1, p0, p1, dl, gn, sw, fl⟩ : St))
    rw [← hns] at HPN
    clear hns
    have RAc := Lib.hid (RA1.out.under BV_v2.out HLA)
    have RZc := Lib.hid (RZ1.out.under BV_v2.out RZ1.out.lt)
    have BTc := Lib.hid (BT1.out.trans (BV_v2.out.mono BT1.out.size))
    have HE : Hid (step9 (⟨ph, ac, r0, r1, w0, w1, p0, p1, dl, gn, sw, fl⟩ : St) (⟨9, rev, cnt, delay, gen, tick, true, st⟩ : Rc) = ((⟨ph, ac, r0, r1, w0, w1, p0, p1, dl, gn, sw, fl⟩ : St), false)) := Lib.hid (by unfold step9; exact pick_no _ _ m1)
    have f1 : (ph == 4) = false := by simpa using m1
    clear m1
    have tokA : True := trivial
    have tokB : True := trivial
    go_wp2_with (first | (have _ta := tokA; refine wpList_load_row rfl 25 (.tmp 2) rfl w.heap.size rfl 25 cs (0, 0) _ RAc.out Try.underlying25 rfl (by rw [HZC.out]; exact i12) ?_; clear tokA _ta) | (have _tb := tokB; refine wpList_load_row rfl 25 (.tmp 6) rfl u1.heap.size rfl 25 ns (0, 0) _ RN.out Try.underlying25 rfl (by rw [HZN.out]; exact i12) ?_; clear tokB _tb))
    refine ((HPN.out _).2).mono ?_
    rintro e u9 ⟨rfl, hb⟩
    have RZ9 := Lib.hid (RZc.out.under hb RZc.out.lt)
    have BT9 := Lib.hid (BTc.out.trans (hb.mono BTc.out.size))
    clear hb
    have ZF := Lib.hid (RZ9.out.set cs)
    have BF := Lib.hid (below_setRow BT9.out (by omega) (b := w.heap.size + 1 + 1) cs)
    go_wp2_with (refine wpList_plain rfl fun _ hK => wp_store_row 25 (.tmp 4) (.tmp 294) rfl (w.heap.size + 1 + 1) cs rfl rfl 25 _ RZ9.out (by rw [HZC.out]; exact i12) (by rw [HZC.out]; rfl) H1C.out (hK _ _ ?_); clear hK)
    (try simp only [Exit.inBlock, Exit.then])
    refine bodyPost_ret (results_cell_tmp rfl _ _ (w.heap.size + 1 + 1) 25 cs (0, 0) _ rfl ZF.out Try.underlying25 rfl (by rw [HZC.out]; exact i12)) rfl ?_
    exact ⟨by rw [HE.out, HC.out]; rfl, BF.out⟩
  have s0_v0 := (BV_v0.out.cell (p := ⟨w.heap.size, 0, none⟩) HLA).trans s0
  have s1_v0 := (BV_v0.out.cell (p := ⟨w.heap.size, 1, none⟩) HLA).trans s1
  have s9_v0 := (BV_v0.out.cell (p := ⟨w.heap.size, 9, none⟩) HLA).trans s9
  have s10_v0 := (BV_v0.out.cell (p := ⟨w.heap.size, 10, none⟩) HLA).trans s10
  have q0_v0 := (BV_v0.out.cell (p := ⟨w.heap.size + 1, 0, none⟩) HLB).trans q0
  have q1_v0 := (BV_v0.out.cell (p := ⟨w.heap.size + 1, 1, none⟩) HLB).trans q1
  have q2_v0 := (BV_v0.out.cell (p := ⟨w.heap.size + 1, 2, none⟩) HLB).trans q2
  have q3_v0 := (BV_v0.out.cell (p := ⟨w.heap.size + 1, 3, none⟩) HLB).trans q3
  have q4_v0 := (BV_v0.out.cell (p := ⟨w.heap.size + 1, 4, none⟩) HLB).trans q4
  have q5_v0 := (BV_v0.out.cell (p := ⟨w.heap.size + 1, 5, none⟩) HLB).trans q5
  have q6_v0 := (BV_v0.out.cell (p := ⟨w.heap.size + 1, 6, none⟩) HLB).trans q6
  have c_v0 : v0.cell? ⟨u1.heap.size, 0, none⟩ = some (.int .i64 ph) := by rw [RT_v0.out.cell 0]; rfl
  have fr_v0 := RT_v0.out.fr 0
  go_upto_region 52 with (fail)
  refine name_w (fun W => Rw W u1.heap.size (stC (⟨6, ac, r0, r1, w0, w1, p0, p1, dl, gn, sw, fl⟩ : St)) 25 ∧ Below u1.heap.size u1 W) ⟨heap_setCell_same _ _ 0 _ 25 (.int .i64 6) RT_v0.out, below_setCell BV_v0.out (Nat.le_refl _) _⟩ ?_
  clear c_v0 fr_v0
  clear s0_v0 s1_v0 s9_v0 s10_v0 q0_v0 q1_v0 q2_v0 q3_v0 q4_v0 q5_v0 q6_v0
  rintro v1 ⟨hT, hb⟩
  have RT_v1 := Lib.hid hT
  have BV_v1 := Lib.hid hb
  clear hT hb
  have s0_v1 := (BV_v1.out.cell (p := ⟨w.heap.size, 0, none⟩) HLA).trans s0
  have s1_v1 := (BV_v1.out.cell (p := ⟨w.heap.size, 1, none⟩) HLA).trans s1
  have s9_v1 := (BV_v1.out.cell (p := ⟨w.heap.size, 9, none⟩) HLA).trans s9
  have s10_v1 := (BV_v1.out.cell (p := ⟨w.heap.size, 10, none⟩) HLA).trans s10
  have q0_v1 := (BV_v1.out.cell (p := ⟨w.heap.size + 1, 0, none⟩) HLB).trans q0
  have q1_v1 := (BV_v1.out.cell (p := ⟨w.heap.size + 1, 1, none⟩) HLB).trans q1
  have q2_v1 := (BV_v1.out.cell (p := ⟨w.heap.size + 1, 2, none⟩) HLB).trans q2
  have q3_v1 := (BV_v1.out.cell (p := ⟨w.heap.size + 1, 3, none⟩) HLB).trans q3
  have q4_v1 := (BV_v1.out.cell (p := ⟨w.heap.size + 1, 4, none⟩) HLB).trans q4
  have q5_v1 := (BV_v1.out.cell (p := ⟨w.heap.size + 1, 5, none⟩) HLB).trans q5
  have q6_v1 := (BV_v1.out.cell (p := ⟨w.heap.size + 1, 6, none⟩) HLB).trans q6
  go_upto_region 54 with (fail)
  clear s0_v1 s1_v1 s9_v1 s10_v1 q0_v1 q1_v1 q2_v1 q3_v1 q4_v1 q5_v1 q6_v1
  by_cases m1 : ph = 4
  case pos =>
    have s0_v1 := (BV_v1.out.cell (p := ⟨w.heap.size, 0, none⟩) HLA).trans s0
    have s1_v1 := (BV_v1.out.cell (p := ⟨w.heap.size, 1, none⟩) HLA).trans s1
    have s9_v1 := (BV_v1.out.cell (p := ⟨w.heap.size, 9, none⟩) HLA).trans s9
    have s10_v1 := (BV_v1.out.cell (p := ⟨w.heap.size, 10, none⟩) HLA).trans s10
    have q0_v1 := (BV_v1.out.cell (p := ⟨w.heap.size + 1, 0, none⟩) HLB).trans q0
    have q1_v1 := (BV_v1.out.cell (p := ⟨w.heap.size + 1, 1, none⟩) HLB).trans q1
    have q2_v1 := (BV_v1.out.cell (p := ⟨w.heap.size + 1, 2, none⟩) HLB).trans q2
    have q3_v1 := (BV_v1.out.cell (p := ⟨w.heap.size + 1, 3, none⟩) HLB).trans q3
    have q4_v1 := (BV_v1.out.cell (p := ⟨w.heap.size + 1, 4, none⟩) HLB).trans q4
    have q5_v1 := (BV_v1.out.cell (p := ⟨w.heap.size + 1, 5, none⟩) HLB).trans q5
    have q6_v1 := (BV_v1.out.cell (p := ⟨w.heap.size + 1, 6, none⟩) HLB).trans q6
    obtain ⟨ns, hns⟩ : ∃ c, c = stC (⟨6, ac, r0, r1, w0, w1, p0, p1, dl, gn, sw, fl⟩ : St) := ⟨_, rfl⟩
    have HZN : Hid (ns.size = 12) := Lib.hid (by rw [hns]; rfl)
    have H1N : Hid (ns.all (·.oneCell') = true) := Lib.hid (by rw [hns]; exact stC_one _)
    have HN := Lib.hid hns
    have RN : Hid (Rw v1 u1.heap.size ns 25) := Lib.hid (by rw [hns]; exact RT_v1.out)
    have HPN := Lib.hid (HPK.out (⟨6, ac, r0, r1, w0, w1, p0, p1, dl, gn, sw, fl⟩ : St))
    rw [← hns] at HPN
    clear hns
    have RAc := Lib.hid (RA1.out.under BV_v1.out HLA)
    have RZc := Lib.hid (RZ1.out.under BV_v1.out RZ1.out.lt)
    have BTc := Lib.hid (BT1.out.trans (BV_v1.out.mono BT1.out.size))
    have HE : Hid (step9 (⟨ph, ac, r0, r1, w0, w1, p0, p1, dl, gn, sw, fl⟩ : St) (⟨9, rev, cnt, delay, gen, tick, false, st⟩ : Rc) = ((⟨6, ac, r0, r1, w0, w1, p0, p1, dl, gn, sw, fl⟩ : St), true)) := Lib.hid (by unfold step9; exact pick_yes _ _ m1)
    have f1 : (ph == 4) = true := by simpa using m1
    clear m1
    have tokA : True := trivial
    have tokB : True := trivial
    go_wp2_with (first | (have _ta := tokA; refine wpList_load_row rfl 25 (.tmp 2) rfl w.heap.size rfl 25 cs (0, 0) _ RAc.out Try.underlying25 rfl (by rw [HZC.out]; exact i12) ?_; clear tokA _ta) | (have _tb := tokB; refine wpList_load_row rfl 25 (.tmp 6) rfl u1.heap.size rfl 25 ns (0, 0) _ RN.out Try.underlying25 rfl (by rw [HZN.out]; exact i12) ?_; clear tokB _tb))
    refine ((HPN.out _).1).mono ?_
    rintro e u9 ⟨rfl, hb⟩
    have RZ9 := Lib.hid (RZc.out.under hb RZc.out.lt)
    have BT9 := Lib.hid (BTc.out.trans (hb.mono BTc.out.size))
    clear hb
    have ZF := Lib.hid (RZ9.out.set ns)
    have BF := Lib.hid (below_setRow BT9.out (by omega) (b := w.heap.size + 1 + 1) ns)
    go_wp2_with (refine wpList_plain rfl fun _ hK => wp_store_row 25 (.tmp 4) (.tmp 294) rfl (w.heap.size + 1 + 1) ns rfl rfl 25 _ RZ9.out (by rw [HZN.out]; exact i12) (by rw [HZN.out]; rfl) H1N.out (hK _ _ ?_); clear hK)
    (try simp only [Exit.inBlock, Exit.then])
    refine bodyPost_ret (results_cell_tmp rfl _ _ (w.heap.size + 1 + 1) 25 ns (0, 0) _ rfl ZF.out Try.underlying25 rfl (by rw [HZN.out]; exact i12)) rfl ?_
    exact ⟨by rw [HE.out, HN.out]; rfl, BF.out⟩
  have s0_v1 := (BV_v1.out.cell (p := ⟨w.heap.size, 0, none⟩) HLA).trans s0
  have s1_v1 := (BV_v1.out.cell (p := ⟨w.heap.size, 1, none⟩) HLA).trans s1
  have s9_v1 := (BV_v1.out.cell (p := ⟨w.heap.size, 9, none⟩) HLA).trans s9
  have s10_v1 := (BV_v1.out.cell (p := ⟨w.heap.size, 10, none⟩) HLA).trans s10
  have q0_v1 := (BV_v1.out.cell (p := ⟨w.heap.size + 1, 0, none⟩) HLB).trans q0
  have q1_v1 := (BV_v1.out.cell (p := ⟨w.heap.size + 1, 1, none⟩) HLB).trans q1
  have q2_v1 := (BV_v1.out.cell (p := ⟨w.heap.size + 1, 2, none⟩) HLB).trans q2
  have q3_v1 := (BV_v1.out.cell (p := ⟨w.heap.size + 1, 3, none⟩) HLB).trans q3
  have q4_v1 := (BV_v1.out.cell (p := ⟨w.heap.size + 1, 4, none⟩) HLB).trans q4
  have q5_v1 := (BV_v1.out.cell (p := ⟨w.heap.size + 1, 5, none⟩) HLB).trans q5
  have q6_v1 := (BV_v1.out.cell (p := ⟨w.heap.size + 1, 6, none⟩) HLB).trans q6
  obtain ⟨ns, hns⟩ : ∃ c, c = stC (⟨6, ac, r0, r1, w0, w1, p0, p1, dl, gn, sw, fl⟩ : St) := ⟨_, rfl⟩
  have HZN : Hid (ns.size = 12) := Lib.hid (by rw [hns]; rfl)
  have H1N : Hid (ns.all (·.oneCell') = true) := Lib.hid (by rw [hns]; exact stC_one _)
  have HN := Lib.hid hns
  have RN : Hid (Rw v1 u1.heap.size ns 25) := Lib.hid (by rw [hns]; exact RT_v1.out)
  have HPN := Lib.hid (HPK.out (⟨6, ac, r0, r1, w0, w1, p0, p1, dl, gn, sw, fl⟩ : St))
  rw [← hns] at HPN
  clear hns
  have RAc := Lib.hid (RA1.out.under BV_v1.out HLA)
  have RZc := Lib.hid (RZ1.out.under BV_v1.out RZ1.out.lt)
  have BTc := Lib.hid (BT1.out.trans (BV_v1.out.mono BT1.out.size))
  have HE : Hid (step9 (⟨ph, ac, r0, r1, w0, w1, p0, p1, dl, gn, sw, fl⟩ : St) (⟨9, rev, cnt, delay, gen, tick, false, st⟩ : Rc) = ((⟨ph, ac, r0, r1, w0, w1, p0, p1, dl, gn, sw, fl⟩ : St), false)) := Lib.hid (by unfold step9; exact pick_no _ _ m1)
  have f1 : (ph == 4) = false := by simpa using m1
  clear m1
  have tokA : True := trivial
  have tokB : True := trivial
  go_wp2_with (first | (have _ta := tokA; refine wpList_load_row rfl 25 (.tmp 2) rfl w.heap.size rfl 25 cs (0, 0) _ RAc.out Try.underlying25 rfl (by rw [HZC.out]; exact i12) ?_; clear tokA _ta) | (have _tb := tokB; refine wpList_load_row rfl 25 (.tmp 6) rfl u1.heap.size rfl 25 ns (0, 0) _ RN.out Try.underlying25 rfl (by rw [HZN.out]; exact i12) ?_; clear tokB _tb))
  refine ((HPN.out _).2).mono ?_
  rintro e u9 ⟨rfl, hb⟩
  have RZ9 := Lib.hid (RZc.out.under hb RZc.out.lt)
  have BT9 := Lib.hid (BTc.out.trans (hb.mono BTc.out.size))
  clear hb
  have ZF := Lib.hid (RZ9.out.set cs)
  have BF := Lib.hid (below_setRow BT9.out (by omega) (b := w.heap.size + 1 + 1) cs)
  go_wp2_with (refine wpList_plain rfl fun _ hK => wp_store_row 25 (.tmp 4) (.tmp 294) rfl (w.heap.size + 1 + 1) cs rfl rfl 25 _ RZ9.out (by rw [HZC.out]; exact i12) (by rw [HZC.out]; rfl) H1C.out (hK _ _ ?_); clear hK)
  (try simp only [Exit.inBlock, Exit.then])
  refine bodyPost_ret (results_cell_tmp rfl _ _ (w.heap.size + 1 + 1) 25 cs (0, 0) _ rfl ZF.out Try.underlying25 rfl (by rw [HZC.out]; exact i12)) rfl ?_
  exact ⟨by rw [HE.out, HC.out]; rfl, BF.out⟩
end Go.Proofs.Ytoeelglmdnhknaa
