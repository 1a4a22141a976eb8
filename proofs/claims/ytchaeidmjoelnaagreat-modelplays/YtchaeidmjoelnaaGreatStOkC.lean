/-
  What the document's own Step answers to a record that can come: C.
-/
import Derived.Test.YtchaeidmjoelnaaGreatStOk0
namespace Go.Proofs.YtchaeidmjoelnaaGreat
open Go.RowKit
set_option linter.unusedSimpArgs false

set_option maxRecDepth 100000 in
set_option maxHeartbeats 16000000 in
theorem mstep_okC (s : St) (r : Rc) (w : World) (hr : rightS s = true) (hw : OkC s r) : Calls Tryz.prog 54 #[stV s, recV r] w (StepR (stepS s r) w) := by
  obtain ⟨ph, ac, r0, r1, w0, w1, p0, p1, dl, gn, sw, fl⟩ := s
  obtain ⟨kind, rev, cnt, delay, gen, tick, pass, st⟩ := r
  obtain ⟨hac, hp0, hp7, hg0, hg1, hs0, hs2⟩ := right_in hr
  simp only at hac hp0 hp7 hg0 hg1 hs0 hs2
  obtain ⟨sc, hsc⟩ : ∃ c, c = stC (⟨ph, ac, r0, r1, w0, w1, p0, p1, dl, gn, sw, fl⟩ : St) := ⟨_, rfl⟩
  have HSC := Lib.hid hsc
  have HZS : Hid (sc.size = 12) := Lib.hid (by rw [hsc]; rfl)
  have HRT : Hid (∀ W, Calls Tryz.prog 8 #[stV (⟨ph, ac, r0, r1, w0, w1, p0, p1, dl, gn, sw, fl⟩ : St)] W fun e w' => e = .returned (.bool true) ∧ Below W.heap.size W w') := Lib.hid (fun W => by
    have h1 := mright_any (⟨ph, ac, r0, r1, w0, w1, p0, p1, dl, gn, sw, fl⟩ : St) W
    rw [hr] at h1
    exact h1)
  have HPK : Hid (∀ (ca cn : Array Value) (b : Bool) W, (∃ s, ca = stC s) → (∃ s, cn = stC s) → Calls Tryz.prog 78 #[.agg ca, .agg cn, .bool b] W fun e w' => e = .returned (.tuple #[.agg (if b then cn else ca), .bool b]) ∧ Below W.heap.size W w') := Lib.hid (fun ca cn b W ⟨a, ha⟩ ⟨n, hn⟩ => by rw [ha, hn]; exact (mpick_any a n b W).mono fun e w' ⟨he, hb⟩ => ⟨by rw [he]; cases b <;> rfl, hb⟩)
  obtain ⟨bs, hbs⟩ : ∃ c, c = stC (blankS (⟨ph, ac, r0, r1, w0, w1, p0, p1, dl, gn, sw, fl⟩ : St)) := ⟨_, rfl⟩
  have HBS := Lib.hid hbs
  have HZB : Hid (bs.size = 12) := Lib.hid (by rw [hbs]; rfl)
  have H1B : Hid (bs.all (·.oneCell') = true) := Lib.hid (by rw [hbs]; exact stC_one _)
  have HBL : Hid (∀ W, Calls Tryz.prog 77 #[.agg (stC (⟨ph, ac, r0, r1, w0, w1, p0, p1, dl, gn, sw, fl⟩ : St))] W fun e w' => e = .returned (.agg bs) ∧ Below W.heap.size W w') := Lib.hid (fun W => by rw [hbs]; exact mblank_any _ W hac)
  have HBL2 : Hid (∀ W, Calls Tryz.prog 77 #[.agg sc] W fun e w' => e = .returned (.agg bs) ∧ Below W.heap.size W w') := Lib.hid (fun W => by rw [hsc]; exact HBL.out W)
  have HPK2 : Hid (∀ W, Calls Tryz.prog 78 #[.agg sc, .agg bs, .bool true] W fun e w' => e = .returned (.tuple #[.agg bs, .bool true]) ∧ Below W.heap.size W w') := Lib.hid (fun W => HPK.out sc bs true W ⟨_, hsc⟩ ⟨_, hbs⟩)
  clear hbs hsc
  unfold stV recV at *
  have HW := Lib.hid hw
  have HAC := Lib.hid hac
  have HR := Lib.hid hr
  have HG := Lib.hid (And.intro hg0 hg1)
  have H1S : Hid (∀ s : St, (stC s).all (·.oneCell') = true) := Lib.hid stC_one
  clear hw hac hr hp0 hp7 hg0 hg1 hs0 hs2
  obtain ⟨X, hX⟩ : ∃ x, x = stepS (⟨ph, ac, r0, r1, w0, w1, p0, p1, dl, gn, sw, fl⟩ : St) ⟨kind, rev, cnt, delay, gen, tick, pass, st⟩ := ⟨_, rfl⟩
  have HX := Lib.hid hX
  rw [← hX]
  clear hX
  go_enter Tryz.func54, Tryz.ntmps54
  go_upto_region 1 with (fail)
  refine name_w (fun W => Rw W w.heap.size (stC ⟨ph, ac, r0, r1, w0, w1, p0, p1, dl, gn, sw, fl⟩) 33 ∧ Rw W (w.heap.size + 1) (recC ⟨kind, rev, cnt, delay, gen, tick, pass, st⟩) 85 ∧ Rw W (w.heap.size + 1 + 1) zeroSC 33 ∧ Below w.heap.size w W) ⟨((Rw.new _ _ _).alloc _).alloc _, Rw.alloc (heap_alloc2_new w _ _) _, ?_, (((Below.refl _ _).alloc (Nat.le_refl _) _).alloc (by simp) _).alloc (by simp; omega) _⟩ ?_
  · have h1 := Rw.new ((w.alloc (.cells (stC ⟨ph, ac, r0, r1, w0, w1, p0, p1, dl, gn, sw, fl⟩) 33)).alloc (.cells (recC ⟨kind, rev, cnt, delay, gen, tick, pass, st⟩) 85)) zeroSC 33
    rw [size_alloc, size_alloc] at h1
    exact h1
  rintro u0 ⟨hA, hB, hZ, hb⟩
  have RA0 := Lib.hid hA
  have RB0 := Lib.hid hB
  have RZ0 := Lib.hid hZ
  have BT0 := Lib.hid hb
  clear hA hB hZ hb
  go_wp2_with (refine wpList_load_row rfl 33 (.tmp 2) rfl w.heap.size rfl 33 (stC ⟨ph, ac, r0, r1, w0, w1, p0, p1, dl, gn, sw, fl⟩) (0, 0) _ RA0.out Tryz.underlying33 rfl i12 ?_)
  refine (HRT.out _).mono ?_
  rintro e u1 ⟨rfl, hb⟩
  have RA1 := Lib.hid (RA0.out.under hb RA0.out.lt)
  have RB1 := Lib.hid (RB0.out.under hb RB0.out.lt)
  have RZ1 := Lib.hid (RZ0.out.under hb RZ0.out.lt)
  have BT1 := Lib.hid (BT0.out.trans (hb.mono BT0.out.size))
  clear hb RA0 RB0 RZ0 BT0 HRT
  go_upto_region 4 with (first | (refine wpList_load_row rfl 33 (.tmp 2) rfl w.heap.size rfl 33 (stC ⟨ph, ac, r0, r1, w0, w1, p0, p1, dl, gn, sw, fl⟩) (0, 0) _ RA1.out Tryz.underlying33 rfl i12 ?_) | (refine wpList_plain rfl fun _ hK => wp_store_row 33 (.tmp 6) (.tmp 12) rfl u1.heap.size (stC ⟨ph, ac, r0, r1, w0, w1, p0, p1, dl, gn, sw, fl⟩) rfl rfl 33 _ (Rw.new u1 zeroSC 33) i12 rfl (H1S.out _) (hK _ _ ?_); clear hK))
  refine name_w (fun W => Rw W u1.heap.size (stC ⟨ph, ac, r0, r1, w0, w1, p0, p1, dl, gn, sw, fl⟩) 33 ∧ Below u1.heap.size u1 W) ⟨(Rw.new u1 zeroSC 33).set _, below_setRow ((Below.refl _ _).alloc (Nat.le_refl _) _) (Nat.le_refl _) _⟩ ?_
  rintro v ⟨hT, hb⟩
  obtain ⟨M, hM⟩ : ∃ n, n = u1.heap.size := ⟨_, rfl⟩
  rw [← hM] at hT hb ⊢
  have RN := Lib.hid hT
  have RA := Lib.hid (RA1.out.under hb (hM ▸ RA1.out.lt))
  have RS : Hid (Rw v w.heap.size sc 33) := Lib.hid (by rw [HSC.out]; exact RA.out)
  have RB := Lib.hid (RB1.out.under hb (hM ▸ RB1.out.lt))
  have RZ := Lib.hid (RZ1.out.under hb (hM ▸ RZ1.out.lt))
  have BV := Lib.hid (BT1.out.trans (hb.mono (hM ▸ BT1.out.size)))
  have hlA : w.heap.size < M := hM ▸ RA1.out.lt
  have hlZ : w.heap.size + 1 + 1 < M := hM ▸ RZ1.out.lt
  have HNA : Hid (w.heap.size ≠ M) := Lib.hid (by omega)
  have HNB : Hid (w.heap.size + 1 ≠ M) := Lib.hid (by omega)
  have HNZ : Hid (w.heap.size + 1 + 1 ≠ M) := Lib.hid (by omega)
  have HLM : Hid (w.heap.size ≤ M) := Lib.hid (by omega)
  have HLW : Hid (w.heap.size ≤ w.heap.size + 1 + 1) := Lib.hid (by omega)
  have HLZ := Lib.hid hlZ
  have n1 : (w.heap.size = M) = False := eq_false (by omega)
  have n2 : (w.heap.size + 1 = M) = False := eq_false (by omega)
  have n3 : (M = w.heap.size) = False := eq_false (by omega)
  have n4 : (M = w.heap.size + 1) = False := eq_false (by omega)
  clear hT hb hM hlA hlZ RA1 RB1 RZ1 BT1
  have a0 : v.cell? ⟨w.heap.size, 0, none⟩ = some (.int .i64 ph) := RA.out.cell 0
  have a1 : v.cell? ⟨w.heap.size, 1, none⟩ = some (.int .i64 ac) := RA.out.cell 1
  have a2 : v.cell? ⟨w.heap.size, 2, none⟩ = some (.int .i64 r0) := RA.out.cell 2
  have a3 : v.cell? ⟨w.heap.size, 3, none⟩ = some (.int .i64 r1) := RA.out.cell 3
  have a4 : v.cell? ⟨w.heap.size, 4, none⟩ = some (.int .i64 w0) := RA.out.cell 4
  have a5 : v.cell? ⟨w.heap.size, 5, none⟩ = some (.int .i64 w1) := RA.out.cell 5
  have a6 : v.cell? ⟨w.heap.size, 6, none⟩ = some (.bool p0) := RA.out.cell 6
  have a7 : v.cell? ⟨w.heap.size, 7, none⟩ = some (.bool p1) := RA.out.cell 7
  have a8 : v.cell? ⟨w.heap.size, 8, none⟩ = some (.int .i64 dl) := RA.out.cell 8
  have a9 : v.cell? ⟨w.heap.size, 9, none⟩ = some (.int .i64 gn) := RA.out.cell 9
  have a10 : v.cell? ⟨w.heap.size, 10, none⟩ = some (.int .i64 sw) := RA.out.cell 10
  have a11 : v.cell? ⟨w.heap.size, 11, none⟩ = some (.int .i64 fl) := RA.out.cell 11
  have b0 : v.cell? ⟨w.heap.size + 1, 0, none⟩ = some (.int .i64 kind) := RB.out.cell 0
  have b1 : v.cell? ⟨w.heap.size + 1, 1, none⟩ = some (.int .i64 rev) := RB.out.cell 1
  have b2 : v.cell? ⟨w.heap.size + 1, 2, none⟩ = some (.int .i64 cnt) := RB.out.cell 2
  have b3 : v.cell? ⟨w.heap.size + 1, 3, none⟩ = some (.int .i64 delay) := RB.out.cell 3
  have b4 : v.cell? ⟨w.heap.size + 1, 4, none⟩ = some (.int .i64 gen) := RB.out.cell 4
  have b5 : v.cell? ⟨w.heap.size + 1, 5, none⟩ = some (.int .i64 tick) := RB.out.cell 5
  have b6 : v.cell? ⟨w.heap.size + 1, 6, none⟩ = some (.bool pass) := RB.out.cell 6
  have c0 : v.cell? ⟨M, 0, none⟩ = some (.int .i64 ph) := RN.out.cell 0
  have f0 : v.frozen? ⟨M, 0, none⟩ = false := RN.out.fr 0
  have c1 : v.cell? ⟨M, 1, none⟩ = some (.int .i64 ac) := RN.out.cell 1
  have f1 : v.frozen? ⟨M, 1, none⟩ = false := RN.out.fr 1
  have c2 : v.cell? ⟨M, 2, none⟩ = some (.int .i64 r0) := RN.out.cell 2
  have f2 : v.frozen? ⟨M, 2, none⟩ = false := RN.out.fr 2
  have c3 : v.cell? ⟨M, 3, none⟩ = some (.int .i64 r1) := RN.out.cell 3
  have f3 : v.frozen? ⟨M, 3, none⟩ = false := RN.out.fr 3
  have c4 : v.cell? ⟨M, 4, none⟩ = some (.int .i64 w0) := RN.out.cell 4
  have f4 : v.frozen? ⟨M, 4, none⟩ = false := RN.out.fr 4
  have c5 : v.cell? ⟨M, 5, none⟩ = some (.int .i64 w1) := RN.out.cell 5
  have f5 : v.frozen? ⟨M, 5, none⟩ = false := RN.out.fr 5
  have c6 : v.cell? ⟨M, 6, none⟩ = some (.bool p0) := RN.out.cell 6
  have f6 : v.frozen? ⟨M, 6, none⟩ = false := RN.out.fr 6
  have c7 : v.cell? ⟨M, 7, none⟩ = some (.bool p1) := RN.out.cell 7
  have f7 : v.frozen? ⟨M, 7, none⟩ = false := RN.out.fr 7
  have c8 : v.cell? ⟨M, 8, none⟩ = some (.int .i64 dl) := RN.out.cell 8
  have f8 : v.frozen? ⟨M, 8, none⟩ = false := RN.out.fr 8
  have c9 : v.cell? ⟨M, 9, none⟩ = some (.int .i64 gn) := RN.out.cell 9
  have f9 : v.frozen? ⟨M, 9, none⟩ = false := RN.out.fr 9
  have c10 : v.cell? ⟨M, 10, none⟩ = some (.int .i64 sw) := RN.out.cell 10
  have f10 : v.frozen? ⟨M, 10, none⟩ = false := RN.out.fr 10
  have c11 : v.cell? ⟨M, 11, none⟩ = some (.int .i64 fl) := RN.out.cell 11
  have f11 : v.frozen? ⟨M, 11, none⟩ = false := RN.out.fr 11
  rcases HAC.out with rfl | rfl
  all_goals (
    rcases HW.out with ⟨h1, h2, h3, h4⟩ | ⟨h1, h2, h3⟩
    · obtain rfl : kind = 5 := h1
      obtain rfl : sw = 0 := h3
      obtain rfl : gen = gn + 1 := h4
      have g0 : wrap64 (gn + 1) = gn + 1 := by unfold wrap64; have := HG.out; omega
      by_cases hg : gn < 1048576
      · have e1 : decide (gn < 1048576) = true := decide_eq_true hg
        have KG := Lib.hid hg
        clear hg
        rcases h2 with h2 | h2 <;> (
          obtain rfl : ph = _ := h2
          go_upto_region 34 with (fail)
          go_wp2_with (fail)
          refine (HPK.out _ _ _ _ ⟨⟨_, _, _, _, _, _, _, _, _, _, _, _⟩, rfl⟩ ⟨⟨_, _, _, _, _, _, _, _, _, _, _, _⟩, rfl⟩).mono ?_
          rintro e y ⟨rfl, hb⟩
          have RZ9 : Hid (Rw y (w.heap.size + 1 + 1) zeroSC 33) := Lib.hid (Rw.pass (by repeat (first | exact RZ.out | refine Rw.cellN ?_ HNZ.out _)) hb)
          have BV9 : Hid (Below w.heap.size w y) := Lib.hid (below_pass (by repeat (first | exact BV.out | refine below_setCell ?_ HLM.out _)) hb)
          clear hb
          go_wp2_with ((with_reducible refine (?_ : wpList _ _ _ (Oper.mk _ (Op.store 33 (Operand.tmp 4) _) _ _ _ none :: _) _ _)); refine wpList_plain rfl fun _ hK => wp_store_row 33 (.tmp 4) _ rfl (w.heap.size + 1 + 1) _ rfl rfl 33 _ RZ9.out (by first | exact i12 | (rw [HZB.out]; exact i12)) (by first | rfl | (rw [HZB.out]; rfl)) (by first | exact H1S.out _ | exact H1B.out | (simp [Value.oneCell']; done)) (hK _ _ ?_); clear hK)
          (try simp only [Exit.inBlock, Exit.then])
          refine bodyPost_ret (results_cell_tmp rfl _ _ (w.heap.size + 1 + 1) 33 _ (0, 0) _ rfl (Rw.set RZ9.out _) Tryz.underlying33 rfl (by first | exact i12 | (rw [HZB.out]; exact i12))) rfl ?_
          exact ⟨(by rw [HX.out]; unfold stepS; rw [if_neg (by rw [HR.out]; decide)]; simp [step1, step2, step3, step4, step5, step6, step7, step8, step9, step10, pickS, setO, setP, raS, stV, stC, HBS.out, KG.out]), below_setRow BV9.out HLW.out _⟩
        )
      · have e1 : decide (gn < 1048576) = false := decide_eq_false hg
        have KG := Lib.hid hg
        clear hg
        rcases h2 with h2 | h2 <;> (
          obtain rfl : ph = _ := h2
          go_upto_region 34 with (fail)
          go_wp2_with (fail)
          refine (HPK.out _ _ _ _ ⟨⟨_, _, _, _, _, _, _, _, _, _, _, _⟩, rfl⟩ ⟨⟨_, _, _, _, _, _, _, _, _, _, _, _⟩, rfl⟩).mono ?_
          rintro e y ⟨rfl, hb⟩
          have RZ9 : Hid (Rw y (w.heap.size + 1 + 1) zeroSC 33) := Lib.hid (Rw.pass (by repeat (first | exact RZ.out | refine Rw.cellN ?_ HNZ.out _)) hb)
          have BV9 : Hid (Below w.heap.size w y) := Lib.hid (below_pass (by repeat (first | exact BV.out | refine below_setCell ?_ HLM.out _)) hb)
          clear hb
          go_wp2_with ((with_reducible refine (?_ : wpList _ _ _ (Oper.mk _ (Op.store 33 (Operand.tmp 4) _) _ _ _ none :: _) _ _)); refine wpList_plain rfl fun _ hK => wp_store_row 33 (.tmp 4) _ rfl (w.heap.size + 1 + 1) _ rfl rfl 33 _ RZ9.out (by first | exact i12 | (rw [HZB.out]; exact i12)) (by first | rfl | (rw [HZB.out]; rfl)) (by first | exact H1S.out _ | exact H1B.out | (simp [Value.oneCell']; done)) (hK _ _ ?_); clear hK)
          (try simp only [Exit.inBlock, Exit.then])
          refine bodyPost_ret (results_cell_tmp rfl _ _ (w.heap.size + 1 + 1) 33 _ (0, 0) _ rfl (Rw.set RZ9.out _) Tryz.underlying33 rfl (by first | exact i12 | (rw [HZB.out]; exact i12))) rfl ?_
          exact ⟨(by rw [HX.out]; unfold stepS; rw [if_neg (by rw [HR.out]; decide)]; simp [step1, step2, step3, step4, step5, step6, step7, step8, step9, step10, pickS, setO, setP, raS, stV, stC, HBS.out, eq_false (by have := KG.out; omega : ¬ gn < 1048576)]), below_setRow BV9.out HLW.out _⟩
        )
    · obtain rfl : sw = 1 := h2
      obtain rfl : gen = gn := h3
      have g0 : wrap64 (gen - 1) = gen - 1 := by unfold wrap64; have := HG.out; omega
      rcases h1 with h1 | h1 <;> (
        obtain rfl : kind = _ := h1
        go_wp2_with (fail)
        refine (HPK.out _ _ _ _ ⟨⟨_, _, _, _, _, _, _, _, _, _, _, _⟩, rfl⟩ ⟨⟨_, _, _, _, _, _, _, _, _, _, _, _⟩, rfl⟩).mono ?_
        rintro e y ⟨rfl, hb⟩
        have RZ9 : Hid (Rw y (w.heap.size + 1 + 1) zeroSC 33) := Lib.hid (Rw.pass (by repeat (first | exact RZ.out | refine Rw.cellN ?_ HNZ.out _)) hb)
        have BV9 : Hid (Below w.heap.size w y) := Lib.hid (below_pass (by repeat (first | exact BV.out | refine below_setCell ?_ HLM.out _)) hb)
        clear hb
        go_wp2_with ((with_reducible refine (?_ : wpList _ _ _ (Oper.mk _ (Op.store 33 (Operand.tmp 4) _) _ _ _ none :: _) _ _)); refine wpList_plain rfl fun _ hK => wp_store_row 33 (.tmp 4) _ rfl (w.heap.size + 1 + 1) _ rfl rfl 33 _ RZ9.out (by first | exact i12 | (rw [HZB.out]; exact i12)) (by first | rfl | (rw [HZB.out]; rfl)) (by first | exact H1S.out _ | exact H1B.out | (simp [Value.oneCell']; done)) (hK _ _ ?_); clear hK)
        (try simp only [Exit.inBlock, Exit.then])
        refine bodyPost_ret (results_cell_tmp rfl _ _ (w.heap.size + 1 + 1) 33 _ (0, 0) _ rfl (Rw.set RZ9.out _) Tryz.underlying33 rfl (by first | exact i12 | (rw [HZB.out]; exact i12))) rfl ?_
        exact ⟨(by rw [HX.out]; unfold stepS; rw [if_neg (by rw [HR.out]; decide)]; simp [step1, step2, step3, step4, step5, step6, step7, step8, step9, step10, pickS, setO, setP, raS, stV, stC, HBS.out]), below_setRow BV9.out HLW.out _⟩
      )
  )
end Go.Proofs.YtchaeidmjoelnaaGreat
