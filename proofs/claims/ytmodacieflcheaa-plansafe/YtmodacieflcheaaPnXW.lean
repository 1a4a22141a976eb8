/-
  switchback's PlanSafe: a switch is prepared, and committed, to a full slot alone, whose gate ahead has passed; a slot is scaled down only when it isn't the active one, behind the delay or behind a rollback; a route is told of a committed switch; else a switch is cancelled, or nothing is to be done. For every input the law returns true, and each argument reads afterwards as it read before. No condition beside the row's own.
-/
import Derived.Test.YtmodacieflcheaaLift
namespace Go.Proofs.Ytmodacieflcheaa.planSafe
open Go.Proofs.Ytmodacieflcheaa
open Go.ChangeShapes Go.WideShapes Go.ChangeAt Go.RowKit
set_option linter.unusedVariables false

def passO (s : St) : Bool := if s.ac = 0 then s.p1 else s.p0
theorem passed_x {s : St} (hr : rightS s = true) (h : s.ph = 3 ∨ s.ph = 6) : passO s = true := by
  unfold rightS at hr
  unfold passO
  split at hr
  · rename_i e
    have X := of_decide_eq_true hr
    rw [if_pos e, X.2.2.2.2.2.2.2.1 (by omega)]
    exact decide_eq_true (by omega)
  · rename_i e
    split at hr
    · have X := of_decide_eq_true hr
      rw [if_neg e, X.2.2.2.2.2.2.2.1 (by omega)]
      exact decide_eq_true (by omega)
    · cases hr
/-- What is to be done, by ways. -/
inductive Safe (s : St) (v : Vw) (now : Int) : Prop
  | wait (e : nextS s v now = (0, rcK 0 0))
  | warm (hf : fullS s v (1 - s.ac) = true) (e : nextS s v now = (1, rcK 3 0))
  | prep (hf : fullS s v (1 - s.ac) = true) (hp : passO s = true) (e : nextS s v now = (2, rcK 5 (s.gn + 1)))
  | comm (hf : fullS s v (1 - s.ac) = true) (hp : passO s = true) (e : nextS s v now = (3, rcK 6 s.gn))
  | canc (e : nextS s v now = (4, rcK 7 s.gn))
  | rout (hs : s.sw = 2) (e : nextS s v now = (5, rcK 0 0))
  | scal (h : s.ph = 7 ∨ s.ph = 5 ∧ s.dl ≤ lessI now s.fl) (e : nextS s v now = (6, rcK 10 0))
theorem safe_x {s : St} (v : Vw) (now : Int) (hr : rightS s = true) : Safe s v now := by
  by_cases c1 : s.ph = 1 ∧ fullS s v (1 - s.ac) = true
  · exact .warm c1.2 (by unfold nextS nextX; rw [if_pos c1])
  by_cases c2 : s.ph = 3 ∨ s.ph = 6
  · have hp := passed_x hr c2
    by_cases s2 : s.sw = 2
    · exact .rout s2 (by unfold nextS nextX; rw [if_neg c1, if_pos c2, if_pos s2])
    by_cases s1 : s.sw = 1
    · cases hf : fullS s v (1 - s.ac) with
      | true => exact .comm hf hp (by unfold nextS nextX; rw [if_neg c1, if_pos c2, if_neg s2, if_pos s1, if_pos hf])
      | false => exact .canc (by unfold nextS nextX; rw [if_neg c1, if_pos c2, if_neg s2, if_pos s1, if_neg (by rw [hf]; decide)])
    cases hf : fullS s v (1 - s.ac) with
    | true => exact .prep hf hp (by unfold nextS nextX; rw [if_neg c1, if_pos c2, if_neg s2, if_neg s1, if_pos hf])
    | false => exact .wait (by unfold nextS nextX; rw [if_neg c1, if_pos c2, if_neg s2, if_neg s1, if_neg (by rw [hf]; decide)])
  by_cases c3 : s.ph = 7 ∨ s.ph = 5 ∧ s.dl ≤ lessI now s.fl
  · exact .scal c3 (by unfold nextS nextX; rw [if_neg c1, if_neg c2, if_pos c3])
  · exact .wait (by unfold nextS nextX; rw [if_neg c1, if_neg c2, if_neg c3])
theorem fl_in {s : St} (h : rightS s = true) : (0 ≤ s.fl ∧ s.fl ≤ 1073741824) ∧ (0 ≤ s.dl ∧ s.dl ≤ 65536) := by
  unfold rightS at h
  split at h
  · have X := (of_decide_eq_true h).1; omega
  · split at h
    · have X := (of_decide_eq_true h).1; omega
    · cases h
theorem below_drewM (W : World) (n : Nat) : Below W.heap.size W (W.drewN n) := ⟨rfl, by simp, rfl, by simp, fun _ _ => by simp⟩
theorem wrap_small {n : Int} (h : -9223372036854775808 ≤ n ∧ n ≤ 9223372036854775807) : RowKit.wrap64 n = n := by unfold RowKit.wrap64; omega
set_option maxRecDepth 100000 in
set_option maxHeartbeats 8000000 in
theorem wait0 (hp : PkgPl) (ph r0 r1 w0 w1 dl gn sw fl now : Int) (p0 p1 : Bool) (v : Vw) (w : World) (hs : FitsS ⟨ph, 0, r0, r1, w0, w1, p0, p1, dl, gn, sw, fl⟩) (hv : FitsV v) (hn : Fits now) (hrt : rightS ⟨ph, 0, r0, r1, w0, w1, p0, p1, dl, gn, sw, fl⟩ = true) (hx : nextS ⟨ph, 0, r0, r1, w0, w1, p0, p1, dl, gn, sw, fl⟩ v now = (0, rcK 0 0)) : Calls Try.prog 5 #[stV ⟨ph, 0, r0, r1, w0, w1, p0, p1, dl, gn, sw, fl⟩, vwV v, .int .i64 now] w (Holds w) := by
  have HAW : Hid (∀ W, Calls Try.prog 9 #[] W fun e w' => e = .returned (.bool true) ∧ Below W.heap.size W w') := Lib.hid (awake_any hp)
  have HMR : Hid (∀ W, Calls Try.prog 10 #[.agg (stC ⟨ph, 0, r0, r1, w0, w1, p0, p1, dl, gn, sw, fl⟩)] W fun e w' => e = .returned (.bool true) ∧ Below W.heap.size W w') := Lib.hid (fun W => by rw [← hrt]; exact mright_any ⟨ph, 0, r0, r1, w0, w1, p0, p1, dl, gn, sw, fl⟩ W)
  have HC0 : Hid (∀ W, Calls Try.prog 11 #[.agg (stC ⟨ph, 0, r0, r1, w0, w1, p0, p1, dl, gn, sw, fl⟩), .agg (vwC v), .int .i64 now] W fun e w' => e = .returned (.tuple #[.int .i64 0, .agg (recC (rcK 0 0))]) ∧ Below W.heap.size W w') := Lib.hid (fun W => by have h := hp.next ⟨ph, 0, r0, r1, w0, w1, p0, p1, dl, gn, sw, fl⟩ v now W hrt hv hn; rw [hx] at h; exact h)
  obtain ⟨cs, hcs⟩ : ∃ c, c = stC ⟨ph, 0, r0, r1, w0, w1, p0, p1, dl, gn, sw, fl⟩ := ⟨_, rfl⟩
  have HE_cs := Lib.hid hcs
  have HZ_cs : Hid (cs.size = 12) := Lib.hid (by rw [hcs]; rfl)
  have H1_cs : Hid (cs.all (·.oneCell') = true) := Lib.hid (by rw [hcs]; exact stC_one _)
  obtain ⟨vs, hvs⟩ : ∃ c, c = vwC v := ⟨_, rfl⟩
  have HE_vs := Lib.hid hvs
  have HZ_vs : Hid (vs.size = 4) := Lib.hid (by rw [hvs]; rfl)
  have H1_vs : Hid (vs.all (·.oneCell') = true) := Lib.hid (by rw [hvs]; exact vwC_one _)
  obtain ⟨rx, hrx⟩ : ∃ c, c = recC (rcK 0 0) := ⟨_, rfl⟩
  have HE_rx := Lib.hid hrx
  have HZ_rx : Hid (rx.size = 19) := Lib.hid (by rw [hrx]; rfl)
  have H1_rx : Hid (rx.all (·.oneCell') = true) := Lib.hid (by rw [hrx]; exact recC_one _)
  rw [← hcs] at HMR HC0
  rw [← hvs] at HC0
  rw [← hrx] at HC0
  have eqZ : ∀ W, (Op.equalIn 10000 31 (.agg rx) (.agg #[.int .i64 0, .int .i64 0, .int .i64 0, .int .i64 0, .int .i64 0, .int .i64 0, .bool false, .int .i64 0, .int .i64 0, .int .i64 0, .int .i64 0, .int .i64 0, .int .i64 0, .bool false, .bool false, .int .i64 0, .int .i64 0, .int .i64 0, .int .i64 0])).run Try.prog W = .ok true W := fun W => by rw [hrx]; exact eq31 (fits_rcK (k := 0) (g := 0) (by decide) (by decide)) W
  unfold stV vwV
  rw [← hcs, ← hvs]
  clear hcs hvs hrx hp hrt hx hv hn hs
  go_enter Try.func5, Try.ntmps5
  go_upto_region 1 with (fail)
  refine name_w (fun W => Rw W w.heap.size cs 25 ∧ Rw W (w.heap.size + 1) vs 27 ∧ Below w.heap.size w W) ⟨(Rw.new _ _ _).alloc _, ?_, ((Below.refl _ _).alloc (Nat.le_refl _) _).alloc (by simp) _⟩ ?_
  · have h1 := Rw.new (w.alloc (.cells cs 25)) vs 27
    rw [size_alloc] at h1
    exact h1
  rintro u0 ⟨h0, h1, h2⟩
  have R_A_0 := Lib.hid h0
  have R_B_0 := Lib.hid h1
  have BT0 := Lib.hid h2
  clear h0 h1 h2
  go_wp2_with fail
  refine (HAW.out _).mono ?_
  rintro e u1 ⟨rfl, hb⟩
  have R_A_1 := Lib.hid (R_A_0.out.under hb R_A_0.out.lt)
  have R_B_1 := Lib.hid (R_B_0.out.under hb R_B_0.out.lt)
  have BT1 := Lib.hid (BT0.out.trans (hb.mono BT0.out.size))
  clear hb BT0 R_A_0 R_B_0
  go_wp2_with (first | (refine wpList_load_any (by rfl) 25 (.tmp 3) rfl w.heap.size rfl 25 cs (0, 0) _ R_A_1.out Try.underlying25 rfl (by rw [HZ_cs.out]; exact i12) ?_))
  refine (HMR.out _).mono ?_
  rintro e u2 ⟨rfl, hb⟩
  have R_A_2 := Lib.hid (R_A_1.out.under hb R_A_1.out.lt)
  have R_B_2 := Lib.hid (R_B_1.out.under hb R_B_1.out.lt)
  have BT2 := Lib.hid (BT1.out.trans (hb.mono BT1.out.size))
  clear hb BT1 R_A_1 R_B_1
  clear HMR
  go_wp2_with (first | (refine wpList_load_any (by rfl) 25 (.tmp 3) rfl w.heap.size rfl 25 cs (0, 0) _ R_A_2.out Try.underlying25 rfl (by rw [HZ_cs.out]; exact i12) ?_) | (refine wpList_load_any (by rfl) 27 (.tmp 4) rfl (w.heap.size + 1) rfl 27 vs (0, 0) _ R_B_2.out Try.underlying27 rfl (by rw [HZ_vs.out]; exact iv4) ?_))
  refine (HC0.out _).mono ?_
  rintro e u3 ⟨rfl, hb⟩
  have R_A_3 := Lib.hid (R_A_2.out.under hb R_A_2.out.lt)
  have R_B_3 := Lib.hid (R_B_2.out.under hb R_B_2.out.lt)
  have BT3 := Lib.hid (BT2.out.trans (hb.mono BT2.out.size))
  clear hb BT2 R_A_2 R_B_2
  clear HC0 HAW
  go_upto_region 4 with (first | (refine wpList_plain rfl fun _ hK => wp_store_row 31 (.tmp 8) (.tmp 26) rfl u3.heap.size rx rfl rfl 31 _ (Rw.new u3 _ 31) (by rw [HZ_rx.out]; exact i19) (by rw [HZ_rx.out]; rfl) (H1_rx.out) (hK _ _ ?_); clear hK))
  obtain ⟨Q, hY⟩ : ∃ X, X = u3.heap.size := ⟨_, rfl⟩
  rw [← hY]
  refine name_w (fun W => Rw W w.heap.size cs 25 ∧ Rw W (w.heap.size + 1) vs 27 ∧ Rw W Q rx 31 ∧ Below w.heap.size w W) ?_ ?_
  · have bb := below_setRow ((Below.refl u3.heap.size u3).alloc (Nat.le_refl _) (.cells (recC (rcK 0 0)) 31)) (Nat.le_refl _) (b := u3.heap.size) rx
    rw [hY]
    exact ⟨R_A_3.out.under bb R_A_3.out.lt, R_B_3.out.under bb R_B_3.out.lt, (Rw.new u3 _ 31).set rx, BT3.out.trans (bb.mono BT3.out.size)⟩
  clear hY BT3 R_A_3 R_B_3
  rintro u4 ⟨h0, h1, h2, h3⟩
  have R_A_4 := Lib.hid h0
  have R_B_4 := Lib.hid h1
  have R_Q_4 := Lib.hid h2
  have BT4 := Lib.hid h3
  clear h0 h1 h2 h3
  have m1 : u4.cell? ⟨w.heap.size, 1, none⟩ = some (.int .i64 0) := by rw [R_A_4.out.cell 1, HE_cs.out]; rfl
  go_wp2_with (first | (refine wpList_load_any (by rfl) 31 (.tmp 8) rfl Q rfl 31 rx (0, 0) _ R_Q_4.out Try.underlying31 rfl (by rw [HZ_rx.out]; exact i19) ?_))
  go_ret
  exact ⟨rfl, BT4.out⟩
set_option maxRecDepth 100000 in
set_option maxHeartbeats 8000000 in
theorem warm0 (hp : PkgPl) (ph r0 r1 w0 w1 dl gn sw fl now : Int) (p0 p1 : Bool) (v : Vw) (w : World) (hs : FitsS ⟨ph, 0, r0, r1, w0, w1, p0, p1, dl, gn, sw, fl⟩) (hv : FitsV v) (hn : Fits now) (hrt : rightS ⟨ph, 0, r0, r1, w0, w1, p0, p1, dl, gn, sw, fl⟩ = true) (hx : nextS ⟨ph, 0, r0, r1, w0, w1, p0, p1, dl, gn, sw, fl⟩ v now = (1, rcK 3 0)) (hf : fullS ⟨ph, 0, r0, r1, w0, w1, p0, p1, dl, gn, sw, fl⟩ v 1 = true) : Calls Try.prog 5 #[stV ⟨ph, 0, r0, r1, w0, w1, p0, p1, dl, gn, sw, fl⟩, vwV v, .int .i64 now] w (Holds w) := by
  have HAW : Hid (∀ W, Calls Try.prog 9 #[] W fun e w' => e = .returned (.bool true) ∧ Below W.heap.size W w') := Lib.hid (awake_any hp)
  have HMR : Hid (∀ W, Calls Try.prog 10 #[.agg (stC ⟨ph, 0, r0, r1, w0, w1, p0, p1, dl, gn, sw, fl⟩)] W fun e w' => e = .returned (.bool true) ∧ Below W.heap.size W w') := Lib.hid (fun W => by rw [← hrt]; exact mright_any ⟨ph, 0, r0, r1, w0, w1, p0, p1, dl, gn, sw, fl⟩ W)
  have HC0 : Hid (∀ W, Calls Try.prog 11 #[.agg (stC ⟨ph, 0, r0, r1, w0, w1, p0, p1, dl, gn, sw, fl⟩), .agg (vwC v), .int .i64 now] W fun e w' => e = .returned (.tuple #[.int .i64 1, .agg (recC (rcK 3 0))]) ∧ Below W.heap.size W w') := Lib.hid (fun W => by have h := hp.next ⟨ph, 0, r0, r1, w0, w1, p0, p1, dl, gn, sw, fl⟩ v now W hrt hv hn; rw [hx] at h; exact h)
  have HFU : Hid (∀ W, Calls Try.prog 14 #[.agg (stC ⟨ph, 0, r0, r1, w0, w1, p0, p1, dl, gn, sw, fl⟩), .agg (vwC v), .int .i64 1] W fun e w' => e = .returned (.bool true) ∧ Below W.heap.size W w') := Lib.hid (fun W => by have h := mfull_any ⟨ph, 0, r0, r1, w0, w1, p0, p1, dl, gn, sw, fl⟩ v 1 W; rw [show fullS ⟨ph, 0, r0, r1, w0, w1, p0, p1, dl, gn, sw, fl⟩ v 1 = true from hf] at h; exact h)
  obtain ⟨cs, hcs⟩ : ∃ c, c = stC ⟨ph, 0, r0, r1, w0, w1, p0, p1, dl, gn, sw, fl⟩ := ⟨_, rfl⟩
  have HE_cs := Lib.hid hcs
  have HZ_cs : Hid (cs.size = 12) := Lib.hid (by rw [hcs]; rfl)
  have H1_cs : Hid (cs.all (·.oneCell') = true) := Lib.hid (by rw [hcs]; exact stC_one _)
  obtain ⟨vs, hvs⟩ : ∃ c, c = vwC v := ⟨_, rfl⟩
  have HE_vs := Lib.hid hvs
  have HZ_vs : Hid (vs.size = 4) := Lib.hid (by rw [hvs]; rfl)
  have H1_vs : Hid (vs.all (·.oneCell') = true) := Lib.hid (by rw [hvs]; exact vwC_one _)
  obtain ⟨rx, hrx⟩ : ∃ c, c = recC (rcK 3 0) := ⟨_, rfl⟩
  have HE_rx := Lib.hid hrx
  have HZ_rx : Hid (rx.size = 19) := Lib.hid (by rw [hrx]; rfl)
  have H1_rx : Hid (rx.all (·.oneCell') = true) := Lib.hid (by rw [hrx]; exact recC_one _)
  rw [← hcs] at HMR HC0 HFU
  rw [← hvs] at HC0 HFU
  rw [← hrx] at HC0
  unfold stV vwV
  rw [← hcs, ← hvs]
  clear hcs hvs hrx hp hrt hx hv hn hs hf
  go_enter Try.func5, Try.ntmps5
  go_upto_region 1 with (fail)
  refine name_w (fun W => Rw W w.heap.size cs 25 ∧ Rw W (w.heap.size + 1) vs 27 ∧ Below w.heap.size w W) ⟨(Rw.new _ _ _).alloc _, ?_, ((Below.refl _ _).alloc (Nat.le_refl _) _).alloc (by simp) _⟩ ?_
  · have h1 := Rw.new (w.alloc (.cells cs 25)) vs 27
    rw [size_alloc] at h1
    exact h1
  rintro u0 ⟨h0, h1, h2⟩
  have R_A_0 := Lib.hid h0
  have R_B_0 := Lib.hid h1
  have BT0 := Lib.hid h2
  clear h0 h1 h2
  go_wp2_with fail
  refine (HAW.out _).mono ?_
  rintro e u1 ⟨rfl, hb⟩
  have R_A_1 := Lib.hid (R_A_0.out.under hb R_A_0.out.lt)
  have R_B_1 := Lib.hid (R_B_0.out.under hb R_B_0.out.lt)
  have BT1 := Lib.hid (BT0.out.trans (hb.mono BT0.out.size))
  clear hb BT0 R_A_0 R_B_0
  go_wp2_with (first | (refine wpList_load_any (by rfl) 25 (.tmp 3) rfl w.heap.size rfl 25 cs (0, 0) _ R_A_1.out Try.underlying25 rfl (by rw [HZ_cs.out]; exact i12) ?_))
  refine (HMR.out _).mono ?_
  rintro e u2 ⟨rfl, hb⟩
  have R_A_2 := Lib.hid (R_A_1.out.under hb R_A_1.out.lt)
  have R_B_2 := Lib.hid (R_B_1.out.under hb R_B_1.out.lt)
  have BT2 := Lib.hid (BT1.out.trans (hb.mono BT1.out.size))
  clear hb BT1 R_A_1 R_B_1
  clear HMR
  go_wp2_with (first | (refine wpList_load_any (by rfl) 25 (.tmp 3) rfl w.heap.size rfl 25 cs (0, 0) _ R_A_2.out Try.underlying25 rfl (by rw [HZ_cs.out]; exact i12) ?_) | (refine wpList_load_any (by rfl) 27 (.tmp 4) rfl (w.heap.size + 1) rfl 27 vs (0, 0) _ R_B_2.out Try.underlying27 rfl (by rw [HZ_vs.out]; exact iv4) ?_))
  refine (HC0.out _).mono ?_
  rintro e u3 ⟨rfl, hb⟩
  have R_A_3 := Lib.hid (R_A_2.out.under hb R_A_2.out.lt)
  have R_B_3 := Lib.hid (R_B_2.out.under hb R_B_2.out.lt)
  have BT3 := Lib.hid (BT2.out.trans (hb.mono BT2.out.size))
  clear hb BT2 R_A_2 R_B_2
  clear HC0 HAW
  go_upto_region 4 with (first | (refine wpList_plain rfl fun _ hK => wp_store_row 31 (.tmp 8) (.tmp 26) rfl u3.heap.size rx rfl rfl 31 _ (Rw.new u3 _ 31) (by rw [HZ_rx.out]; exact i19) (by rw [HZ_rx.out]; rfl) (H1_rx.out) (hK _ _ ?_); clear hK))
  obtain ⟨Q, hY⟩ : ∃ X, X = u3.heap.size := ⟨_, rfl⟩
  rw [← hY]
  refine name_w (fun W => Rw W w.heap.size cs 25 ∧ Rw W (w.heap.size + 1) vs 27 ∧ Rw W Q rx 31 ∧ Below w.heap.size w W) ?_ ?_
  · have bb := below_setRow ((Below.refl u3.heap.size u3).alloc (Nat.le_refl _) (.cells (recC (rcK 0 0)) 31)) (Nat.le_refl _) (b := u3.heap.size) rx
    rw [hY]
    exact ⟨R_A_3.out.under bb R_A_3.out.lt, R_B_3.out.under bb R_B_3.out.lt, (Rw.new u3 _ 31).set rx, BT3.out.trans (bb.mono BT3.out.size)⟩
  clear hY BT3 R_A_3 R_B_3
  rintro u4 ⟨h0, h1, h2, h3⟩
  have R_A_4 := Lib.hid h0
  have R_B_4 := Lib.hid h1
  have R_Q_4 := Lib.hid h2
  have BT4 := Lib.hid h3
  clear h0 h1 h2 h3
  have m1 : u4.cell? ⟨w.heap.size, 1, none⟩ = some (.int .i64 0) := by rw [R_A_4.out.cell 1, HE_cs.out]; rfl
  have k0 : u4.cell? ⟨Q, 0, none⟩ = some (.int .i64 3) := by rw [R_Q_4.out.cell 0, HE_rx.out]; rfl
  go_wp2_with (first | (refine wpList_load_any (by rfl) 25 (.tmp 3) rfl w.heap.size rfl 25 cs (0, 0) _ R_A_4.out Try.underlying25 rfl (by rw [HZ_cs.out]; exact i12) ?_) | (refine wpList_load_any (by rfl) 27 (.tmp 4) rfl (w.heap.size + 1) rfl 27 vs (0, 0) _ R_B_4.out Try.underlying27 rfl (by rw [HZ_vs.out]; exact iv4) ?_))
  refine (HFU.out _).mono ?_
  rintro e u5 ⟨rfl, hb⟩
  have R_A_5 := Lib.hid (R_A_4.out.under hb R_A_4.out.lt)
  have R_B_5 := Lib.hid (R_B_4.out.under hb R_B_4.out.lt)
  have R_Q_5 := Lib.hid (R_Q_4.out.under hb R_Q_4.out.lt)
  have BT5 := Lib.hid (BT4.out.trans (hb.mono BT4.out.size))
  clear hb BT4 R_A_4 R_B_4 R_Q_4
  clear HFU
  have k1 : u5.cell? ⟨Q, 0, none⟩ = some (.int .i64 3) := by rw [R_Q_5.out.cell 0, HE_rx.out]; rfl
  go_wp2_with fail
  go_ret
  exact ⟨rfl, BT5.out⟩
set_option maxRecDepth 100000 in
set_option maxHeartbeats 8000000 in
theorem prep0 (hp : PkgPl) (ph r0 r1 w0 w1 dl gn sw fl now : Int) (p0 p1 : Bool) (v : Vw) (w : World) (hs : FitsS ⟨ph, 0, r0, r1, w0, w1, p0, p1, dl, gn, sw, fl⟩) (hv : FitsV v) (hn : Fits now) (hrt : rightS ⟨ph, 0, r0, r1, w0, w1, p0, p1, dl, gn, sw, fl⟩ = true) (hx : nextS ⟨ph, 0, r0, r1, w0, w1, p0, p1, dl, gn, sw, fl⟩ v now = (2, rcK 5 (gn + 1))) (hf : fullS ⟨ph, 0, r0, r1, w0, w1, p0, p1, dl, gn, sw, fl⟩ v 1 = true) (hpo : p1 = true) : Calls Try.prog 5 #[stV ⟨ph, 0, r0, r1, w0, w1, p0, p1, dl, gn, sw, fl⟩, vwV v, .int .i64 now] w (Holds w) := by
  have HPO := Lib.hid hpo
  clear hpo
  have HAW : Hid (∀ W, Calls Try.prog 9 #[] W fun e w' => e = .returned (.bool true) ∧ Below W.heap.size W w') := Lib.hid (awake_any hp)
  have HMR : Hid (∀ W, Calls Try.prog 10 #[.agg (stC ⟨ph, 0, r0, r1, w0, w1, p0, p1, dl, gn, sw, fl⟩)] W fun e w' => e = .returned (.bool true) ∧ Below W.heap.size W w') := Lib.hid (fun W => by rw [← hrt]; exact mright_any ⟨ph, 0, r0, r1, w0, w1, p0, p1, dl, gn, sw, fl⟩ W)
  have HC0 : Hid (∀ W, Calls Try.prog 11 #[.agg (stC ⟨ph, 0, r0, r1, w0, w1, p0, p1, dl, gn, sw, fl⟩), .agg (vwC v), .int .i64 now] W fun e w' => e = .returned (.tuple #[.int .i64 2, .agg (recC (rcK 5 (gn + 1)))]) ∧ Below W.heap.size W w') := Lib.hid (fun W => by have h := hp.next ⟨ph, 0, r0, r1, w0, w1, p0, p1, dl, gn, sw, fl⟩ v now W hrt hv hn; rw [hx] at h; exact h)
  have HFU : Hid (∀ W, Calls Try.prog 14 #[.agg (stC ⟨ph, 0, r0, r1, w0, w1, p0, p1, dl, gn, sw, fl⟩), .agg (vwC v), .int .i64 1] W fun e w' => e = .returned (.bool true) ∧ Below W.heap.size W w') := Lib.hid (fun W => by have h := mfull_any ⟨ph, 0, r0, r1, w0, w1, p0, p1, dl, gn, sw, fl⟩ v 1 W; rw [show fullS ⟨ph, 0, r0, r1, w0, w1, p0, p1, dl, gn, sw, fl⟩ v 1 = true from hf] at h; exact h)
  obtain ⟨cs, hcs⟩ : ∃ c, c = stC ⟨ph, 0, r0, r1, w0, w1, p0, p1, dl, gn, sw, fl⟩ := ⟨_, rfl⟩
  have HE_cs := Lib.hid hcs
  have HZ_cs : Hid (cs.size = 12) := Lib.hid (by rw [hcs]; rfl)
  have H1_cs : Hid (cs.all (·.oneCell') = true) := Lib.hid (by rw [hcs]; exact stC_one _)
  obtain ⟨vs, hvs⟩ : ∃ c, c = vwC v := ⟨_, rfl⟩
  have HE_vs := Lib.hid hvs
  have HZ_vs : Hid (vs.size = 4) := Lib.hid (by rw [hvs]; rfl)
  have H1_vs : Hid (vs.all (·.oneCell') = true) := Lib.hid (by rw [hvs]; exact vwC_one _)
  obtain ⟨rx, hrx⟩ : ∃ c, c = recC (rcK 5 (gn + 1)) := ⟨_, rfl⟩
  have HE_rx := Lib.hid hrx
  have HZ_rx : Hid (rx.size = 19) := Lib.hid (by rw [hrx]; rfl)
  have H1_rx : Hid (rx.all (·.oneCell') = true) := Lib.hid (by rw [hrx]; exact recC_one _)
  rw [← hcs] at HMR HC0 HFU
  rw [← hvs] at HC0 HFU
  rw [← hrx] at HC0
  unfold stV vwV
  rw [← hcs, ← hvs]
  clear hcs hvs hrx hp hrt hx hv hn hs hf
  go_enter Try.func5, Try.ntmps5
  go_upto_region 1 with (fail)
  refine name_w (fun W => Rw W w.heap.size cs 25 ∧ Rw W (w.heap.size + 1) vs 27 ∧ Below w.heap.size w W) ⟨(Rw.new _ _ _).alloc _, ?_, ((Below.refl _ _).alloc (Nat.le_refl _) _).alloc (by simp) _⟩ ?_
  · have h1 := Rw.new (w.alloc (.cells cs 25)) vs 27
    rw [size_alloc] at h1
    exact h1
  rintro u0 ⟨h0, h1, h2⟩
  have R_A_0 := Lib.hid h0
  have R_B_0 := Lib.hid h1
  have BT0 := Lib.hid h2
  clear h0 h1 h2
  go_wp2_with fail
  refine (HAW.out _).mono ?_
  rintro e u1 ⟨rfl, hb⟩
  have R_A_1 := Lib.hid (R_A_0.out.under hb R_A_0.out.lt)
  have R_B_1 := Lib.hid (R_B_0.out.under hb R_B_0.out.lt)
  have BT1 := Lib.hid (BT0.out.trans (hb.mono BT0.out.size))
  clear hb BT0 R_A_0 R_B_0
  go_wp2_with (first | (refine wpList_load_any (by rfl) 25 (.tmp 3) rfl w.heap.size rfl 25 cs (0, 0) _ R_A_1.out Try.underlying25 rfl (by rw [HZ_cs.out]; exact i12) ?_))
  refine (HMR.out _).mono ?_
  rintro e u2 ⟨rfl, hb⟩
  have R_A_2 := Lib.hid (R_A_1.out.under hb R_A_1.out.lt)
  have R_B_2 := Lib.hid (R_B_1.out.under hb R_B_1.out.lt)
  have BT2 := Lib.hid (BT1.out.trans (hb.mono BT1.out.size))
  clear hb BT1 R_A_1 R_B_1
  clear HMR
  go_wp2_with (first | (refine wpList_load_any (by rfl) 25 (.tmp 3) rfl w.heap.size rfl 25 cs (0, 0) _ R_A_2.out Try.underlying25 rfl (by rw [HZ_cs.out]; exact i12) ?_) | (refine wpList_load_any (by rfl) 27 (.tmp 4) rfl (w.heap.size + 1) rfl 27 vs (0, 0) _ R_B_2.out Try.underlying27 rfl (by rw [HZ_vs.out]; exact iv4) ?_))
  refine (HC0.out _).mono ?_
  rintro e u3 ⟨rfl, hb⟩
  have R_A_3 := Lib.hid (R_A_2.out.under hb R_A_2.out.lt)
  have R_B_3 := Lib.hid (R_B_2.out.under hb R_B_2.out.lt)
  have BT3 := Lib.hid (BT2.out.trans (hb.mono BT2.out.size))
  clear hb BT2 R_A_2 R_B_2
  clear HC0 HAW
  go_upto_region 4 with (first | (refine wpList_plain rfl fun _ hK => wp_store_row 31 (.tmp 8) (.tmp 26) rfl u3.heap.size rx rfl rfl 31 _ (Rw.new u3 _ 31) (by rw [HZ_rx.out]; exact i19) (by rw [HZ_rx.out]; rfl) (H1_rx.out) (hK _ _ ?_); clear hK))
  obtain ⟨Q, hY⟩ : ∃ X, X = u3.heap.size := ⟨_, rfl⟩
  rw [← hY]
  refine name_w (fun W => Rw W w.heap.size cs 25 ∧ Rw W (w.heap.size + 1) vs 27 ∧ Rw W Q rx 31 ∧ Below w.heap.size w W) ?_ ?_
  · have bb := below_setRow ((Below.refl u3.heap.size u3).alloc (Nat.le_refl _) (.cells (recC (rcK 0 0)) 31)) (Nat.le_refl _) (b := u3.heap.size) rx
    rw [hY]
    exact ⟨R_A_3.out.under bb R_A_3.out.lt, R_B_3.out.under bb R_B_3.out.lt, (Rw.new u3 _ 31).set rx, BT3.out.trans (bb.mono BT3.out.size)⟩
  clear hY BT3 R_A_3 R_B_3
  rintro u4 ⟨h0, h1, h2, h3⟩
  have R_A_4 := Lib.hid h0
  have R_B_4 := Lib.hid h1
  have R_Q_4 := Lib.hid h2
  have BT4 := Lib.hid h3
  clear h0 h1 h2 h3
  have m1 : u4.cell? ⟨w.heap.size, 1, none⟩ = some (.int .i64 0) := by rw [R_A_4.out.cell 1, HE_cs.out]; rfl
  have k0 : u4.cell? ⟨Q, 0, none⟩ = some (.int .i64 5) := by rw [R_Q_4.out.cell 0, HE_rx.out]; rfl
  have q0 : u4.cell? ⟨w.heap.size, 7, none⟩ = some (.bool p1) := by rw [R_A_4.out.cell 7, HE_cs.out]; rfl
  rw [HPO.out] at q0
  go_wp2_with (first | (refine wpList_load_any (by rfl) 25 (.tmp 3) rfl w.heap.size rfl 25 cs (0, 0) _ R_A_4.out Try.underlying25 rfl (by rw [HZ_cs.out]; exact i12) ?_) | (refine wpList_load_any (by rfl) 27 (.tmp 4) rfl (w.heap.size + 1) rfl 27 vs (0, 0) _ R_B_4.out Try.underlying27 rfl (by rw [HZ_vs.out]; exact iv4) ?_))
  refine (HFU.out _).mono ?_
  rintro e u5 ⟨rfl, hb⟩
  have R_A_5 := Lib.hid (R_A_4.out.under hb R_A_4.out.lt)
  have R_B_5 := Lib.hid (R_B_4.out.under hb R_B_4.out.lt)
  have R_Q_5 := Lib.hid (R_Q_4.out.under hb R_Q_4.out.lt)
  have BT5 := Lib.hid (BT4.out.trans (hb.mono BT4.out.size))
  clear hb BT4 R_A_4 R_B_4 R_Q_4
  clear HFU
  have k1 : u5.cell? ⟨Q, 0, none⟩ = some (.int .i64 5) := by rw [R_Q_5.out.cell 0, HE_rx.out]; rfl
  have q1 : u5.cell? ⟨w.heap.size, 7, none⟩ = some (.bool p1) := by rw [R_A_5.out.cell 7, HE_cs.out]; rfl
  rw [HPO.out] at q1
  go_wp2_with fail
  go_ret
  exact ⟨rfl, BT5.out⟩
set_option maxRecDepth 100000 in
set_option maxHeartbeats 8000000 in
theorem comm0 (hp : PkgPl) (ph r0 r1 w0 w1 dl gn sw fl now : Int) (p0 p1 : Bool) (v : Vw) (w : World) (hs : FitsS ⟨ph, 0, r0, r1, w0, w1, p0, p1, dl, gn, sw, fl⟩) (hv : FitsV v) (hn : Fits now) (hrt : rightS ⟨ph, 0, r0, r1, w0, w1, p0, p1, dl, gn, sw, fl⟩ = true) (hx : nextS ⟨ph, 0, r0, r1, w0, w1, p0, p1, dl, gn, sw, fl⟩ v now = (3, rcK 6 gn)) (hf : fullS ⟨ph, 0, r0, r1, w0, w1, p0, p1, dl, gn, sw, fl⟩ v 1 = true) (hpo : p1 = true) : Calls Try.prog 5 #[stV ⟨ph, 0, r0, r1, w0, w1, p0, p1, dl, gn, sw, fl⟩, vwV v, .int .i64 now] w (Holds w) := by
  have HPO := Lib.hid hpo
  clear hpo
  have HAW : Hid (∀ W, Calls Try.prog 9 #[] W fun e w' => e = .returned (.bool true) ∧ Below W.heap.size W w') := Lib.hid (awake_any hp)
  have HMR : Hid (∀ W, Calls Try.prog 10 #[.agg (stC ⟨ph, 0, r0, r1, w0, w1, p0, p1, dl, gn, sw, fl⟩)] W fun e w' => e = .returned (.bool true) ∧ Below W.heap.size W w') := Lib.hid (fun W => by rw [← hrt]; exact mright_any ⟨ph, 0, r0, r1, w0, w1, p0, p1, dl, gn, sw, fl⟩ W)
  have HC0 : Hid (∀ W, Calls Try.prog 11 #[.agg (stC ⟨ph, 0, r0, r1, w0, w1, p0, p1, dl, gn, sw, fl⟩), .agg (vwC v), .int .i64 now] W fun e w' => e = .returned (.tuple #[.int .i64 3, .agg (recC (rcK 6 gn))]) ∧ Below W.heap.size W w') := Lib.hid (fun W => by have h := hp.next ⟨ph, 0, r0, r1, w0, w1, p0, p1, dl, gn, sw, fl⟩ v now W hrt hv hn; rw [hx] at h; exact h)
  have HFU : Hid (∀ W, Calls Try.prog 14 #[.agg (stC ⟨ph, 0, r0, r1, w0, w1, p0, p1, dl, gn, sw, fl⟩), .agg (vwC v), .int .i64 1] W fun e w' => e = .returned (.bool true) ∧ Below W.heap.size W w') := Lib.hid (fun W => by have h := mfull_any ⟨ph, 0, r0, r1, w0, w1, p0, p1, dl, gn, sw, fl⟩ v 1 W; rw [show fullS ⟨ph, 0, r0, r1, w0, w1, p0, p1, dl, gn, sw, fl⟩ v 1 = true from hf] at h; exact h)
  obtain ⟨cs, hcs⟩ : ∃ c, c = stC ⟨ph, 0, r0, r1, w0, w1, p0, p1, dl, gn, sw, fl⟩ := ⟨_, rfl⟩
  have HE_cs := Lib.hid hcs
  have HZ_cs : Hid (cs.size = 12) := Lib.hid (by rw [hcs]; rfl)
  have H1_cs : Hid (cs.all (·.oneCell') = true) := Lib.hid (by rw [hcs]; exact stC_one _)
  obtain ⟨vs, hvs⟩ : ∃ c, c = vwC v := ⟨_, rfl⟩
  have HE_vs := Lib.hid hvs
  have HZ_vs : Hid (vs.size = 4) := Lib.hid (by rw [hvs]; rfl)
  have H1_vs : Hid (vs.all (·.oneCell') = true) := Lib.hid (by rw [hvs]; exact vwC_one _)
  obtain ⟨rx, hrx⟩ : ∃ c, c = recC (rcK 6 gn) := ⟨_, rfl⟩
  have HE_rx := Lib.hid hrx
  have HZ_rx : Hid (rx.size = 19) := Lib.hid (by rw [hrx]; rfl)
  have H1_rx : Hid (rx.all (·.oneCell') = true) := Lib.hid (by rw [hrx]; exact recC_one _)
  rw [← hcs] at HMR HC0 HFU
  rw [← hvs] at HC0 HFU
  rw [← hrx] at HC0
  unfold stV vwV
  rw [← hcs, ← hvs]
  clear hcs hvs hrx hp hrt hx hv hn hs hf
  go_enter Try.func5, Try.ntmps5
  go_upto_region 1 with (fail)
  refine name_w (fun W => Rw W w.heap.size cs 25 ∧ Rw W (w.heap.size + 1) vs 27 ∧ Below w.heap.size w W) ⟨(Rw.new _ _ _).alloc _, ?_, ((Below.refl _ _).alloc (Nat.le_refl _) _).alloc (by simp) _⟩ ?_
  · have h1 := Rw.new (w.alloc (.cells cs 25)) vs 27
    rw [size_alloc] at h1
    exact h1
  rintro u0 ⟨h0, h1, h2⟩
  have R_A_0 := Lib.hid h0
  have R_B_0 := Lib.hid h1
  have BT0 := Lib.hid h2
  clear h0 h1 h2
  go_wp2_with fail
  refine (HAW.out _).mono ?_
  rintro e u1 ⟨rfl, hb⟩
  have R_A_1 := Lib.hid (R_A_0.out.under hb R_A_0.out.lt)
  have R_B_1 := Lib.hid (R_B_0.out.under hb R_B_0.out.lt)
  have BT1 := Lib.hid (BT0.out.trans (hb.mono BT0.out.size))
  clear hb BT0 R_A_0 R_B_0
  go_wp2_with (first | (refine wpList_load_any (by rfl) 25 (.tmp 3) rfl w.heap.size rfl 25 cs (0, 0) _ R_A_1.out Try.underlying25 rfl (by rw [HZ_cs.out]; exact i12) ?_))
  refine (HMR.out _).mono ?_
  rintro e u2 ⟨rfl, hb⟩
  have R_A_2 := Lib.hid (R_A_1.out.under hb R_A_1.out.lt)
  have R_B_2 := Lib.hid (R_B_1.out.under hb R_B_1.out.lt)
  have BT2 := Lib.hid (BT1.out.trans (hb.mono BT1.out.size))
  clear hb BT1 R_A_1 R_B_1
  clear HMR
  go_wp2_with (first | (refine wpList_load_any (by rfl) 25 (.tmp 3) rfl w.heap.size rfl 25 cs (0, 0) _ R_A_2.out Try.underlying25 rfl (by rw [HZ_cs.out]; exact i12) ?_) | (refine wpList_load_any (by rfl) 27 (.tmp 4) rfl (w.heap.size + 1) rfl 27 vs (0, 0) _ R_B_2.out Try.underlying27 rfl (by rw [HZ_vs.out]; exact iv4) ?_))
  refine (HC0.out _).mono ?_
  rintro e u3 ⟨rfl, hb⟩
  have R_A_3 := Lib.hid (R_A_2.out.under hb R_A_2.out.lt)
  have R_B_3 := Lib.hid (R_B_2.out.under hb R_B_2.out.lt)
  have BT3 := Lib.hid (BT2.out.trans (hb.mono BT2.out.size))
  clear hb BT2 R_A_2 R_B_2
  clear HC0 HAW
  go_upto_region 4 with (first | (refine wpList_plain rfl fun _ hK => wp_store_row 31 (.tmp 8) (.tmp 26) rfl u3.heap.size rx rfl rfl 31 _ (Rw.new u3 _ 31) (by rw [HZ_rx.out]; exact i19) (by rw [HZ_rx.out]; rfl) (H1_rx.out) (hK _ _ ?_); clear hK))
  obtain ⟨Q, hY⟩ : ∃ X, X = u3.heap.size := ⟨_, rfl⟩
  rw [← hY]
  refine name_w (fun W => Rw W w.heap.size cs 25 ∧ Rw W (w.heap.size + 1) vs 27 ∧ Rw W Q rx 31 ∧ Below w.heap.size w W) ?_ ?_
  · have bb := below_setRow ((Below.refl u3.heap.size u3).alloc (Nat.le_refl _) (.cells (recC (rcK 0 0)) 31)) (Nat.le_refl _) (b := u3.heap.size) rx
    rw [hY]
    exact ⟨R_A_3.out.under bb R_A_3.out.lt, R_B_3.out.under bb R_B_3.out.lt, (Rw.new u3 _ 31).set rx, BT3.out.trans (bb.mono BT3.out.size)⟩
  clear hY BT3 R_A_3 R_B_3
  rintro u4 ⟨h0, h1, h2, h3⟩
  have R_A_4 := Lib.hid h0
  have R_B_4 := Lib.hid h1
  have R_Q_4 := Lib.hid h2
  have BT4 := Lib.hid h3
  clear h0 h1 h2 h3
  have m1 : u4.cell? ⟨w.heap.size, 1, none⟩ = some (.int .i64 0) := by rw [R_A_4.out.cell 1, HE_cs.out]; rfl
  have k0 : u4.cell? ⟨Q, 0, none⟩ = some (.int .i64 6) := by rw [R_Q_4.out.cell 0, HE_rx.out]; rfl
  have q0 : u4.cell? ⟨w.heap.size, 7, none⟩ = some (.bool p1) := by rw [R_A_4.out.cell 7, HE_cs.out]; rfl
  rw [HPO.out] at q0
  go_wp2_with (first | (refine wpList_load_any (by rfl) 25 (.tmp 3) rfl w.heap.size rfl 25 cs (0, 0) _ R_A_4.out Try.underlying25 rfl (by rw [HZ_cs.out]; exact i12) ?_) | (refine wpList_load_any (by rfl) 27 (.tmp 4) rfl (w.heap.size + 1) rfl 27 vs (0, 0) _ R_B_4.out Try.underlying27 rfl (by rw [HZ_vs.out]; exact iv4) ?_))
  refine (HFU.out _).mono ?_
  rintro e u5 ⟨rfl, hb⟩
  have R_A_5 := Lib.hid (R_A_4.out.under hb R_A_4.out.lt)
  have R_B_5 := Lib.hid (R_B_4.out.under hb R_B_4.out.lt)
  have R_Q_5 := Lib.hid (R_Q_4.out.under hb R_Q_4.out.lt)
  have BT5 := Lib.hid (BT4.out.trans (hb.mono BT4.out.size))
  clear hb BT4 R_A_4 R_B_4 R_Q_4
  clear HFU
  have k1 : u5.cell? ⟨Q, 0, none⟩ = some (.int .i64 6) := by rw [R_Q_5.out.cell 0, HE_rx.out]; rfl
  have q1 : u5.cell? ⟨w.heap.size, 7, none⟩ = some (.bool p1) := by rw [R_A_5.out.cell 7, HE_cs.out]; rfl
  rw [HPO.out] at q1
  go_wp2_with fail
  go_ret
  exact ⟨rfl, BT5.out⟩
set_option maxRecDepth 100000 in
set_option maxHeartbeats 8000000 in
theorem canc0 (hp : PkgPl) (ph r0 r1 w0 w1 dl gn sw fl now : Int) (p0 p1 : Bool) (v : Vw) (w : World) (hs : FitsS ⟨ph, 0, r0, r1, w0, w1, p0, p1, dl, gn, sw, fl⟩) (hv : FitsV v) (hn : Fits now) (hrt : rightS ⟨ph, 0, r0, r1, w0, w1, p0, p1, dl, gn, sw, fl⟩ = true) (hx : nextS ⟨ph, 0, r0, r1, w0, w1, p0, p1, dl, gn, sw, fl⟩ v now = (4, rcK 7 gn)) : Calls Try.prog 5 #[stV ⟨ph, 0, r0, r1, w0, w1, p0, p1, dl, gn, sw, fl⟩, vwV v, .int .i64 now] w (Holds w) := by
  have HAW : Hid (∀ W, Calls Try.prog 9 #[] W fun e w' => e = .returned (.bool true) ∧ Below W.heap.size W w') := Lib.hid (awake_any hp)
  have HMR : Hid (∀ W, Calls Try.prog 10 #[.agg (stC ⟨ph, 0, r0, r1, w0, w1, p0, p1, dl, gn, sw, fl⟩)] W fun e w' => e = .returned (.bool true) ∧ Below W.heap.size W w') := Lib.hid (fun W => by rw [← hrt]; exact mright_any ⟨ph, 0, r0, r1, w0, w1, p0, p1, dl, gn, sw, fl⟩ W)
  have HC0 : Hid (∀ W, Calls Try.prog 11 #[.agg (stC ⟨ph, 0, r0, r1, w0, w1, p0, p1, dl, gn, sw, fl⟩), .agg (vwC v), .int .i64 now] W fun e w' => e = .returned (.tuple #[.int .i64 4, .agg (recC (rcK 7 gn))]) ∧ Below W.heap.size W w') := Lib.hid (fun W => by have h := hp.next ⟨ph, 0, r0, r1, w0, w1, p0, p1, dl, gn, sw, fl⟩ v now W hrt hv hn; rw [hx] at h; exact h)
  obtain ⟨cs, hcs⟩ : ∃ c, c = stC ⟨ph, 0, r0, r1, w0, w1, p0, p1, dl, gn, sw, fl⟩ := ⟨_, rfl⟩
  have HE_cs := Lib.hid hcs
  have HZ_cs : Hid (cs.size = 12) := Lib.hid (by rw [hcs]; rfl)
  have H1_cs : Hid (cs.all (·.oneCell') = true) := Lib.hid (by rw [hcs]; exact stC_one _)
  obtain ⟨vs, hvs⟩ : ∃ c, c = vwC v := ⟨_, rfl⟩
  have HE_vs := Lib.hid hvs
  have HZ_vs : Hid (vs.size = 4) := Lib.hid (by rw [hvs]; rfl)
  have H1_vs : Hid (vs.all (·.oneCell') = true) := Lib.hid (by rw [hvs]; exact vwC_one _)
  obtain ⟨rx, hrx⟩ : ∃ c, c = recC (rcK 7 gn) := ⟨_, rfl⟩
  have HE_rx := Lib.hid hrx
  have HZ_rx : Hid (rx.size = 19) := Lib.hid (by rw [hrx]; rfl)
  have H1_rx : Hid (rx.all (·.oneCell') = true) := Lib.hid (by rw [hrx]; exact recC_one _)
  rw [← hcs] at HMR HC0
  rw [← hvs] at HC0
  rw [← hrx] at HC0
  unfold stV vwV
  rw [← hcs, ← hvs]
  clear hcs hvs hrx hp hrt hx hv hn hs
  go_enter Try.func5, Try.ntmps5
  go_upto_region 1 with (fail)
  refine name_w (fun W => Rw W w.heap.size cs 25 ∧ Rw W (w.heap.size + 1) vs 27 ∧ Below w.heap.size w W) ⟨(Rw.new _ _ _).alloc _, ?_, ((Below.refl _ _).alloc (Nat.le_refl _) _).alloc (by simp) _⟩ ?_
  · have h1 := Rw.new (w.alloc (.cells cs 25)) vs 27
    rw [size_alloc] at h1
    exact h1
  rintro u0 ⟨h0, h1, h2⟩
  have R_A_0 := Lib.hid h0
  have R_B_0 := Lib.hid h1
  have BT0 := Lib.hid h2
  clear h0 h1 h2
  go_wp2_with fail
  refine (HAW.out _).mono ?_
  rintro e u1 ⟨rfl, hb⟩
  have R_A_1 := Lib.hid (R_A_0.out.under hb R_A_0.out.lt)
  have R_B_1 := Lib.hid (R_B_0.out.under hb R_B_0.out.lt)
  have BT1 := Lib.hid (BT0.out.trans (hb.mono BT0.out.size))
  clear hb BT0 R_A_0 R_B_0
  go_wp2_with (first | (refine wpList_load_any (by rfl) 25 (.tmp 3) rfl w.heap.size rfl 25 cs (0, 0) _ R_A_1.out Try.underlying25 rfl (by rw [HZ_cs.out]; exact i12) ?_))
  refine (HMR.out _).mono ?_
  rintro e u2 ⟨rfl, hb⟩
  have R_A_2 := Lib.hid (R_A_1.out.under hb R_A_1.out.lt)
  have R_B_2 := Lib.hid (R_B_1.out.under hb R_B_1.out.lt)
  have BT2 := Lib.hid (BT1.out.trans (hb.mono BT1.out.size))
  clear hb BT1 R_A_1 R_B_1
  clear HMR
  go_wp2_with (first | (refine wpList_load_any (by rfl) 25 (.tmp 3) rfl w.heap.size rfl 25 cs (0, 0) _ R_A_2.out Try.underlying25 rfl (by rw [HZ_cs.out]; exact i12) ?_) | (refine wpList_load_any (by rfl) 27 (.tmp 4) rfl (w.heap.size + 1) rfl 27 vs (0, 0) _ R_B_2.out Try.underlying27 rfl (by rw [HZ_vs.out]; exact iv4) ?_))
  refine (HC0.out _).mono ?_
  rintro e u3 ⟨rfl, hb⟩
  have R_A_3 := Lib.hid (R_A_2.out.under hb R_A_2.out.lt)
  have R_B_3 := Lib.hid (R_B_2.out.under hb R_B_2.out.lt)
  have BT3 := Lib.hid (BT2.out.trans (hb.mono BT2.out.size))
  clear hb BT2 R_A_2 R_B_2
  clear HC0 HAW
  go_upto_region 4 with (first | (refine wpList_plain rfl fun _ hK => wp_store_row 31 (.tmp 8) (.tmp 26) rfl u3.heap.size rx rfl rfl 31 _ (Rw.new u3 _ 31) (by rw [HZ_rx.out]; exact i19) (by rw [HZ_rx.out]; rfl) (H1_rx.out) (hK _ _ ?_); clear hK))
  obtain ⟨Q, hY⟩ : ∃ X, X = u3.heap.size := ⟨_, rfl⟩
  rw [← hY]
  refine name_w (fun W => Rw W w.heap.size cs 25 ∧ Rw W (w.heap.size + 1) vs 27 ∧ Rw W Q rx 31 ∧ Below w.heap.size w W) ?_ ?_
  · have bb := below_setRow ((Below.refl u3.heap.size u3).alloc (Nat.le_refl _) (.cells (recC (rcK 0 0)) 31)) (Nat.le_refl _) (b := u3.heap.size) rx
    rw [hY]
    exact ⟨R_A_3.out.under bb R_A_3.out.lt, R_B_3.out.under bb R_B_3.out.lt, (Rw.new u3 _ 31).set rx, BT3.out.trans (bb.mono BT3.out.size)⟩
  clear hY BT3 R_A_3 R_B_3
  rintro u4 ⟨h0, h1, h2, h3⟩
  have R_A_4 := Lib.hid h0
  have R_B_4 := Lib.hid h1
  have R_Q_4 := Lib.hid h2
  have BT4 := Lib.hid h3
  clear h0 h1 h2 h3
  have m1 : u4.cell? ⟨w.heap.size, 1, none⟩ = some (.int .i64 0) := by rw [R_A_4.out.cell 1, HE_cs.out]; rfl
  have k0 : u4.cell? ⟨Q, 0, none⟩ = some (.int .i64 7) := by rw [R_Q_4.out.cell 0, HE_rx.out]; rfl
  go_wp2_with fail
  go_ret
  exact ⟨rfl, BT4.out⟩
set_option maxRecDepth 100000 in
set_option maxHeartbeats 8000000 in
theorem rout0 (hp : PkgPl) (ph r0 r1 w0 w1 dl gn sw fl now : Int) (p0 p1 : Bool) (v : Vw) (w : World) (hs : FitsS ⟨ph, 0, r0, r1, w0, w1, p0, p1, dl, gn, sw, fl⟩) (hv : FitsV v) (hn : Fits now) (hrt : rightS ⟨ph, 0, r0, r1, w0, w1, p0, p1, dl, gn, sw, fl⟩ = true) (hx : nextS ⟨ph, 0, r0, r1, w0, w1, p0, p1, dl, gn, sw, fl⟩ v now = (5, rcK 0 0)) (hsw : sw = 2) : Calls Try.prog 5 #[stV ⟨ph, 0, r0, r1, w0, w1, p0, p1, dl, gn, sw, fl⟩, vwV v, .int .i64 now] w (Holds w) := by
  have HSW := Lib.hid hsw
  clear hsw
  have HAW : Hid (∀ W, Calls Try.prog 9 #[] W fun e w' => e = .returned (.bool true) ∧ Below W.heap.size W w') := Lib.hid (awake_any hp)
  have HMR : Hid (∀ W, Calls Try.prog 10 #[.agg (stC ⟨ph, 0, r0, r1, w0, w1, p0, p1, dl, gn, sw, fl⟩)] W fun e w' => e = .returned (.bool true) ∧ Below W.heap.size W w') := Lib.hid (fun W => by rw [← hrt]; exact mright_any ⟨ph, 0, r0, r1, w0, w1, p0, p1, dl, gn, sw, fl⟩ W)
  have HC0 : Hid (∀ W, Calls Try.prog 11 #[.agg (stC ⟨ph, 0, r0, r1, w0, w1, p0, p1, dl, gn, sw, fl⟩), .agg (vwC v), .int .i64 now] W fun e w' => e = .returned (.tuple #[.int .i64 5, .agg (recC (rcK 0 0))]) ∧ Below W.heap.size W w') := Lib.hid (fun W => by have h := hp.next ⟨ph, 0, r0, r1, w0, w1, p0, p1, dl, gn, sw, fl⟩ v now W hrt hv hn; rw [hx] at h; exact h)
  obtain ⟨cs, hcs⟩ : ∃ c, c = stC ⟨ph, 0, r0, r1, w0, w1, p0, p1, dl, gn, sw, fl⟩ := ⟨_, rfl⟩
  have HE_cs := Lib.hid hcs
  have HZ_cs : Hid (cs.size = 12) := Lib.hid (by rw [hcs]; rfl)
  have H1_cs : Hid (cs.all (·.oneCell') = true) := Lib.hid (by rw [hcs]; exact stC_one _)
  obtain ⟨vs, hvs⟩ : ∃ c, c = vwC v := ⟨_, rfl⟩
  have HE_vs := Lib.hid hvs
  have HZ_vs : Hid (vs.size = 4) := Lib.hid (by rw [hvs]; rfl)
  have H1_vs : Hid (vs.all (·.oneCell') = true) := Lib.hid (by rw [hvs]; exact vwC_one _)
  obtain ⟨rx, hrx⟩ : ∃ c, c = recC (rcK 0 0) := ⟨_, rfl⟩
  have HE_rx := Lib.hid hrx
  have HZ_rx : Hid (rx.size = 19) := Lib.hid (by rw [hrx]; rfl)
  have H1_rx : Hid (rx.all (·.oneCell') = true) := Lib.hid (by rw [hrx]; exact recC_one _)
  rw [← hcs] at HMR HC0
  rw [← hvs] at HC0
  rw [← hrx] at HC0
  have eqZ : ∀ W, (Op.equalIn 10000 31 (.agg rx) (.agg #[.int .i64 0, .int .i64 0, .int .i64 0, .int .i64 0, .int .i64 0, .int .i64 0, .bool false, .int .i64 0, .int .i64 0, .int .i64 0, .int .i64 0, .int .i64 0, .int .i64 0, .bool false, .bool false, .int .i64 0, .int .i64 0, .int .i64 0, .int .i64 0])).run Try.prog W = .ok true W := fun W => by rw [hrx]; exact eq31 (fits_rcK (k := 0) (g := 0) (by decide) (by decide)) W
  unfold stV vwV
  rw [← hcs, ← hvs]
  clear hcs hvs hrx hp hrt hx hv hn hs
  go_enter Try.func5, Try.ntmps5
  go_upto_region 1 with (fail)
  refine name_w (fun W => Rw W w.heap.size cs 25 ∧ Rw W (w.heap.size + 1) vs 27 ∧ Below w.heap.size w W) ⟨(Rw.new _ _ _).alloc _, ?_, ((Below.refl _ _).alloc (Nat.le_refl _) _).alloc (by simp) _⟩ ?_
  · have h1 := Rw.new (w.alloc (.cells cs 25)) vs 27
    rw [size_alloc] at h1
    exact h1
  rintro u0 ⟨h0, h1, h2⟩
  have R_A_0 := Lib.hid h0
  have R_B_0 := Lib.hid h1
  have BT0 := Lib.hid h2
  clear h0 h1 h2
  go_wp2_with fail
  refine (HAW.out _).mono ?_
  rintro e u1 ⟨rfl, hb⟩
  have R_A_1 := Lib.hid (R_A_0.out.under hb R_A_0.out.lt)
  have R_B_1 := Lib.hid (R_B_0.out.under hb R_B_0.out.lt)
  have BT1 := Lib.hid (BT0.out.trans (hb.mono BT0.out.size))
  clear hb BT0 R_A_0 R_B_0
  go_wp2_with (first | (refine wpList_load_any (by rfl) 25 (.tmp 3) rfl w.heap.size rfl 25 cs (0, 0) _ R_A_1.out Try.underlying25 rfl (by rw [HZ_cs.out]; exact i12) ?_))
  refine (HMR.out _).mono ?_
  rintro e u2 ⟨rfl, hb⟩
  have R_A_2 := Lib.hid (R_A_1.out.under hb R_A_1.out.lt)
  have R_B_2 := Lib.hid (R_B_1.out.under hb R_B_1.out.lt)
  have BT2 := Lib.hid (BT1.out.trans (hb.mono BT1.out.size))
  clear hb BT1 R_A_1 R_B_1
  clear HMR
  go_wp2_with (first | (refine wpList_load_any (by rfl) 25 (.tmp 3) rfl w.heap.size rfl 25 cs (0, 0) _ R_A_2.out Try.underlying25 rfl (by rw [HZ_cs.out]; exact i12) ?_) | (refine wpList_load_any (by rfl) 27 (.tmp 4) rfl (w.heap.size + 1) rfl 27 vs (0, 0) _ R_B_2.out Try.underlying27 rfl (by rw [HZ_vs.out]; exact iv4) ?_))
  refine (HC0.out _).mono ?_
  rintro e u3 ⟨rfl, hb⟩
  have R_A_3 := Lib.hid (R_A_2.out.under hb R_A_2.out.lt)
  have R_B_3 := Lib.hid (R_B_2.out.under hb R_B_2.out.lt)
  have BT3 := Lib.hid (BT2.out.trans (hb.mono BT2.out.size))
  clear hb BT2 R_A_2 R_B_2
  clear HC0 HAW
  go_upto_region 4 with (first | (refine wpList_plain rfl fun _ hK => wp_store_row 31 (.tmp 8) (.tmp 26) rfl u3.heap.size rx rfl rfl 31 _ (Rw.new u3 _ 31) (by rw [HZ_rx.out]; exact i19) (by rw [HZ_rx.out]; rfl) (H1_rx.out) (hK _ _ ?_); clear hK))
  obtain ⟨Q, hY⟩ : ∃ X, X = u3.heap.size := ⟨_, rfl⟩
  rw [← hY]
  refine name_w (fun W => Rw W w.heap.size cs 25 ∧ Rw W (w.heap.size + 1) vs 27 ∧ Rw W Q rx 31 ∧ Below w.heap.size w W) ?_ ?_
  · have bb := below_setRow ((Below.refl u3.heap.size u3).alloc (Nat.le_refl _) (.cells (recC (rcK 0 0)) 31)) (Nat.le_refl _) (b := u3.heap.size) rx
    rw [hY]
    exact ⟨R_A_3.out.under bb R_A_3.out.lt, R_B_3.out.under bb R_B_3.out.lt, (Rw.new u3 _ 31).set rx, BT3.out.trans (bb.mono BT3.out.size)⟩
  clear hY BT3 R_A_3 R_B_3
  rintro u4 ⟨h0, h1, h2, h3⟩
  have R_A_4 := Lib.hid h0
  have R_B_4 := Lib.hid h1
  have R_Q_4 := Lib.hid h2
  have BT4 := Lib.hid h3
  clear h0 h1 h2 h3
  have m1 : u4.cell? ⟨w.heap.size, 1, none⟩ = some (.int .i64 0) := by rw [R_A_4.out.cell 1, HE_cs.out]; rfl
  have k0 : u4.cell? ⟨w.heap.size, 10, none⟩ = some (.int .i64 sw) := by rw [R_A_4.out.cell 10, HE_cs.out]; rfl
  rw [HSW.out] at k0
  go_wp2_with (first | (refine wpList_load_any (by rfl) 31 (.tmp 8) rfl Q rfl 31 rx (0, 0) _ R_Q_4.out Try.underlying31 rfl (by rw [HZ_rx.out]; exact i19) ?_))
  go_ret
  exact ⟨rfl, BT4.out⟩
set_option maxRecDepth 100000 in
set_option maxHeartbeats 8000000 in
theorem scal0 (hp : PkgPl) (ph r0 r1 w0 w1 dl gn sw fl now : Int) (p0 p1 : Bool) (v : Vw) (w : World) (hs : FitsS ⟨ph, 0, r0, r1, w0, w1, p0, p1, dl, gn, sw, fl⟩) (hv : FitsV v) (hn : Fits now) (hrt : rightS ⟨ph, 0, r0, r1, w0, w1, p0, p1, dl, gn, sw, fl⟩ = true) (hx : nextS ⟨ph, 0, r0, r1, w0, w1, p0, p1, dl, gn, sw, fl⟩ v now = (6, rcK 10 0)) (hst : stepS ⟨ph, 0, r0, r1, w0, w1, p0, p1, dl, gn, sw, fl⟩ (rcK 10 0) = (blankS ⟨ph, 0, r0, r1, w0, w1, p0, p1, dl, gn, sw, fl⟩, true)) (hc : ph = 7 ∨ (ph = 5 ∧ fl ≤ now ∧ dl ≤ now - fl) ∨ (ph = 5 ∧ ¬ fl ≤ now ∧ dl = 0)) (hb : 0 ≤ fl ∧ fl ≤ 1073741824) : Calls Try.prog 5 #[stV ⟨ph, 0, r0, r1, w0, w1, p0, p1, dl, gn, sw, fl⟩, vwV v, .int .i64 now] w (Holds w) := by
  have HWR : Hid (fl ≤ now → 0 ≤ fl ∧ fl ≤ 1073741824 → RowKit.wrap64 (now - fl) = now - fl) := Lib.hid (fun h1 h2 => wrap_small (by unfold Fits at hn; omega))
  have HAW : Hid (∀ W, Calls Try.prog 9 #[] W fun e w' => e = .returned (.bool true) ∧ Below W.heap.size W w') := Lib.hid (awake_any hp)
  have HMR : Hid (∀ W, Calls Try.prog 10 #[.agg (stC ⟨ph, 0, r0, r1, w0, w1, p0, p1, dl, gn, sw, fl⟩)] W fun e w' => e = .returned (.bool true) ∧ Below W.heap.size W w') := Lib.hid (fun W => by rw [← hrt]; exact mright_any ⟨ph, 0, r0, r1, w0, w1, p0, p1, dl, gn, sw, fl⟩ W)
  have HC0 : Hid (∀ W, Calls Try.prog 11 #[.agg (stC ⟨ph, 0, r0, r1, w0, w1, p0, p1, dl, gn, sw, fl⟩), .agg (vwC v), .int .i64 now] W fun e w' => e = .returned (.tuple #[.int .i64 6, .agg (recC (rcK 10 0))]) ∧ Below W.heap.size W w') := Lib.hid (fun W => by have h := hp.next ⟨ph, 0, r0, r1, w0, w1, p0, p1, dl, gn, sw, fl⟩ v now W hrt hv hn; rw [hx] at h; exact h)
  have HST : Hid (∀ W, Calls Try.prog 15 #[.agg (stC ⟨ph, 0, r0, r1, w0, w1, p0, p1, dl, gn, sw, fl⟩), .agg (recC (rcK 10 0))] W fun e w' => e = .returned (.tuple #[.agg (stC (blankS ⟨ph, 0, r0, r1, w0, w1, p0, p1, dl, gn, sw, fl⟩)), .bool true]) ∧ Below W.heap.size W w') := Lib.hid (fun W => by have h := step_any ⟨ph, 0, r0, r1, w0, w1, p0, p1, dl, gn, sw, fl⟩ (rcK 10 0) W (fits_rcK (by decide) (by decide)).kind; rw [hst] at h; exact h)
  obtain ⟨cs, hcs⟩ : ∃ c, c = stC ⟨ph, 0, r0, r1, w0, w1, p0, p1, dl, gn, sw, fl⟩ := ⟨_, rfl⟩
  have HE_cs := Lib.hid hcs
  have HZ_cs : Hid (cs.size = 12) := Lib.hid (by rw [hcs]; rfl)
  have H1_cs : Hid (cs.all (·.oneCell') = true) := Lib.hid (by rw [hcs]; exact stC_one _)
  obtain ⟨vs, hvs⟩ : ∃ c, c = vwC v := ⟨_, rfl⟩
  have HE_vs := Lib.hid hvs
  have HZ_vs : Hid (vs.size = 4) := Lib.hid (by rw [hvs]; rfl)
  have H1_vs : Hid (vs.all (·.oneCell') = true) := Lib.hid (by rw [hvs]; exact vwC_one _)
  obtain ⟨rx, hrx⟩ : ∃ c, c = recC (rcK 10 0) := ⟨_, rfl⟩
  have HE_rx := Lib.hid hrx
  have HZ_rx : Hid (rx.size = 19) := Lib.hid (by rw [hrx]; rfl)
  have H1_rx : Hid (rx.all (·.oneCell') = true) := Lib.hid (by rw [hrx]; exact recC_one _)
  obtain ⟨xc, hxc⟩ : ∃ c, c = stC (blankS ⟨ph, 0, r0, r1, w0, w1, p0, p1, dl, gn, sw, fl⟩) := ⟨_, rfl⟩
  have HE_xc := Lib.hid hxc
  have HZ_xc : Hid (xc.size = 12) := Lib.hid (by rw [hxc]; rfl)
  have H1_xc : Hid (xc.all (·.oneCell') = true) := Lib.hid (by rw [hxc]; exact stC_one _)
  rw [← hcs] at HMR HC0 HST
  rw [← hvs] at HC0
  rw [← hrx] at HC0 HST
  rw [← hxc] at HST
  unfold stV vwV
  rw [← hcs, ← hvs]
  clear hcs hvs hrx hp hrt hx hv hn hs hxc hst
  go_enter Try.func5, Try.ntmps5
  go_upto_region 1 with (fail)
  refine name_w (fun W => Rw W w.heap.size cs 25 ∧ Rw W (w.heap.size + 1) vs 27 ∧ Below w.heap.size w W) ⟨(Rw.new _ _ _).alloc _, ?_, ((Below.refl _ _).alloc (Nat.le_refl _) _).alloc (by simp) _⟩ ?_
  · have h1 := Rw.new (w.alloc (.cells cs 25)) vs 27
    rw [size_alloc] at h1
    exact h1
  rintro u0 ⟨h0, h1, h2⟩
  have R_A_0 := Lib.hid h0
  have R_B_0 := Lib.hid h1
  have BT0 := Lib.hid h2
  clear h0 h1 h2
  go_wp2_with fail
  refine (HAW.out _).mono ?_
  rintro e u1 ⟨rfl, hb⟩
  have R_A_1 := Lib.hid (R_A_0.out.under hb R_A_0.out.lt)
  have R_B_1 := Lib.hid (R_B_0.out.under hb R_B_0.out.lt)
  have BT1 := Lib.hid (BT0.out.trans (hb.mono BT0.out.size))
  clear hb BT0 R_A_0 R_B_0
  go_wp2_with (first | (refine wpList_load_any (by rfl) 25 (.tmp 3) rfl w.heap.size rfl 25 cs (0, 0) _ R_A_1.out Try.underlying25 rfl (by rw [HZ_cs.out]; exact i12) ?_))
  refine (HMR.out _).mono ?_
  rintro e u2 ⟨rfl, hb⟩
  have R_A_2 := Lib.hid (R_A_1.out.under hb R_A_1.out.lt)
  have R_B_2 := Lib.hid (R_B_1.out.under hb R_B_1.out.lt)
  have BT2 := Lib.hid (BT1.out.trans (hb.mono BT1.out.size))
  clear hb BT1 R_A_1 R_B_1
  clear HMR
  go_wp2_with (first | (refine wpList_load_any (by rfl) 25 (.tmp 3) rfl w.heap.size rfl 25 cs (0, 0) _ R_A_2.out Try.underlying25 rfl (by rw [HZ_cs.out]; exact i12) ?_) | (refine wpList_load_any (by rfl) 27 (.tmp 4) rfl (w.heap.size + 1) rfl 27 vs (0, 0) _ R_B_2.out Try.underlying27 rfl (by rw [HZ_vs.out]; exact iv4) ?_))
  refine (HC0.out _).mono ?_
  rintro e u3 ⟨rfl, hb⟩
  have R_A_3 := Lib.hid (R_A_2.out.under hb R_A_2.out.lt)
  have R_B_3 := Lib.hid (R_B_2.out.under hb R_B_2.out.lt)
  have BT3 := Lib.hid (BT2.out.trans (hb.mono BT2.out.size))
  clear hb BT2 R_A_2 R_B_2
  clear HC0 HAW
  go_upto_region 4 with (first | (refine wpList_plain rfl fun _ hK => wp_store_row 31 (.tmp 8) (.tmp 26) rfl u3.heap.size rx rfl rfl 31 _ (Rw.new u3 _ 31) (by rw [HZ_rx.out]; exact i19) (by rw [HZ_rx.out]; rfl) (H1_rx.out) (hK _ _ ?_); clear hK))
  obtain ⟨Q, hY⟩ : ∃ X, X = u3.heap.size := ⟨_, rfl⟩
  rw [← hY]
  refine name_w (fun W => Rw W w.heap.size cs 25 ∧ Rw W (w.heap.size + 1) vs 27 ∧ Rw W Q rx 31 ∧ Below w.heap.size w W) ?_ ?_
  · have bb := below_setRow ((Below.refl u3.heap.size u3).alloc (Nat.le_refl _) (.cells (recC (rcK 0 0)) 31)) (Nat.le_refl _) (b := u3.heap.size) rx
    rw [hY]
    exact ⟨R_A_3.out.under bb R_A_3.out.lt, R_B_3.out.under bb R_B_3.out.lt, (Rw.new u3 _ 31).set rx, BT3.out.trans (bb.mono BT3.out.size)⟩
  clear hY BT3 R_A_3 R_B_3
  rintro u4 ⟨h0, h1, h2, h3⟩
  have R_A_4 := Lib.hid h0
  have R_B_4 := Lib.hid h1
  have R_Q_4 := Lib.hid h2
  have BT4 := Lib.hid h3
  clear h0 h1 h2 h3
  have m1 : u4.cell? ⟨w.heap.size, 1, none⟩ = some (.int .i64 0) := by rw [R_A_4.out.cell 1, HE_cs.out]; rfl
  go_wp2_with (first | (refine wpList_load_any (by rfl) 25 (.tmp 3) rfl w.heap.size rfl 25 cs (0, 0) _ R_A_4.out Try.underlying25 rfl (by rw [HZ_cs.out]; exact i12) ?_) | (refine wpList_load_any (by rfl) 31 (.tmp 8) rfl Q rfl 31 rx (0, 0) _ R_Q_4.out Try.underlying31 rfl (by rw [HZ_rx.out]; exact i19) ?_))
  refine (HST.out _).mono ?_
  rintro e u5 ⟨rfl, hb⟩
  have R_A_5 := Lib.hid (R_A_4.out.under hb R_A_4.out.lt)
  have R_B_5 := Lib.hid (R_B_4.out.under hb R_B_4.out.lt)
  have R_Q_5 := Lib.hid (R_Q_4.out.under hb R_Q_4.out.lt)
  have BT5 := Lib.hid (BT4.out.trans (hb.mono BT4.out.size))
  clear hb BT4 R_A_4 R_B_4 R_Q_4
  clear HST m1
  go_upto_region 12 with (first | (refine wpList_plain rfl fun _ hK => wp_store_row 25 (.tmp 10) (.tmp 60) rfl u5.heap.size xc rfl rfl 25 _ (Rw.new u5 _ 25) (by rw [HZ_xc.out]; exact i12) (by rw [HZ_xc.out]; rfl) (H1_xc.out) (hK _ _ ?_); clear hK))
  obtain ⟨X, hY⟩ : ∃ X, X = u5.heap.size := ⟨_, rfl⟩
  rw [← hY]
  refine name_w (fun W => Rw W w.heap.size cs 25 ∧ Rw W (w.heap.size + 1) vs 27 ∧ Rw W Q rx 31 ∧ Rw W X xc 25 ∧ Below w.heap.size w W) ?_ ?_
  · have bb := below_setRow ((Below.refl u5.heap.size u5).alloc (Nat.le_refl _) (.cells (stC zeroS) 25)) (Nat.le_refl _) (b := u5.heap.size) xc
    rw [hY]
    exact ⟨R_A_5.out.under bb R_A_5.out.lt, R_B_5.out.under bb R_B_5.out.lt, R_Q_5.out.under bb R_Q_5.out.lt, (Rw.new u5 _ 25).set xc, BT5.out.trans (bb.mono BT5.out.size)⟩
  clear hY BT5 R_A_5 R_B_5 R_Q_5
  rintro u6 ⟨h0, h1, h2, h3, h4⟩
  have R_A_6 := Lib.hid h0
  have R_B_6 := Lib.hid h1
  have R_Q_6 := Lib.hid h2
  have R_X_6 := Lib.hid h3
  have BT6 := Lib.hid h4
  clear h0 h1 h2 h3 h4
  have a0 : u6.cell? ⟨w.heap.size, 0, none⟩ = some (.int .i64 ph) := by rw [R_A_6.out.cell 0, HE_cs.out]; rfl
  have a1 : u6.cell? ⟨w.heap.size, 1, none⟩ = some (.int .i64 0) := by rw [R_A_6.out.cell 1, HE_cs.out]; rfl
  have a4 : u6.cell? ⟨w.heap.size, 4, none⟩ = some (.int .i64 w0) := by rw [R_A_6.out.cell 4, HE_cs.out]; rfl
  have a5 : u6.cell? ⟨w.heap.size, 5, none⟩ = some (.int .i64 w1) := by rw [R_A_6.out.cell 5, HE_cs.out]; rfl
  have a8 : u6.cell? ⟨w.heap.size, 8, none⟩ = some (.int .i64 dl) := by rw [R_A_6.out.cell 8, HE_cs.out]; rfl
  have a11 : u6.cell? ⟨w.heap.size, 11, none⟩ = some (.int .i64 fl) := by rw [R_A_6.out.cell 11, HE_cs.out]; rfl
  have x4 : u6.cell? ⟨X, 4, none⟩ = some (.int .i64 w0) := by rw [R_X_6.out.cell 4, HE_xc.out]; rfl
  have x5 : u6.cell? ⟨X, 5, none⟩ = some (.int .i64 0) := by rw [R_X_6.out.cell 5, HE_xc.out]; rfl
  rcases hc with rfl | ⟨rfl, hge, hle⟩ | ⟨rfl, hge, rfl⟩
  · clear hb
    go_quiet (fail)
    go_wp2
    go_ret
    exact ⟨rfl, BT6.out.trans ((below_drewM _ _).mono BT6.out.size)⟩
  · have e1 : decide (fl ≤ now) = true := decide_eq_true hge
    have e2 : RowKit.wrap64 (now - fl) = now - fl := HWR.out hge hb
    have e3 : decide (dl ≤ now - fl) = true := decide_eq_true hle
    clear hge hle hb
    go_quiet (fail)
    go_wp2
    go_ret
    exact ⟨rfl, BT6.out.trans ((below_drewM _ _).mono BT6.out.size)⟩
  · have e1 : decide (fl ≤ now) = false := decide_eq_false (by omega)
    clear hge hb
    go_quiet (fail)
    go_wp2
    go_ret
    exact ⟨rfl, BT6.out.trans ((below_drewM _ _).mono BT6.out.size)⟩
set_option maxRecDepth 100000 in
set_option maxHeartbeats 8000000 in
theorem wait1 (hp : PkgPl) (ph r0 r1 w0 w1 dl gn sw fl now : Int) (p0 p1 : Bool) (v : Vw) (w : World) (hs : FitsS ⟨ph, 1, r0, r1, w0, w1, p0, p1, dl, gn, sw, fl⟩) (hv : FitsV v) (hn : Fits now) (hrt : rightS ⟨ph, 1, r0, r1, w0, w1, p0, p1, dl, gn, sw, fl⟩ = true) (hx : nextS ⟨ph, 1, r0, r1, w0, w1, p0, p1, dl, gn, sw, fl⟩ v now = (0, rcK 0 0)) : Calls Try.prog 5 #[stV ⟨ph, 1, r0, r1, w0, w1, p0, p1, dl, gn, sw, fl⟩, vwV v, .int .i64 now] w (Holds w) := by
  have HAW : Hid (∀ W, Calls Try.prog 9 #[] W fun e w' => e = .returned (.bool true) ∧ Below W.heap.size W w') := Lib.hid (awake_any hp)
  have HMR : Hid (∀ W, Calls Try.prog 10 #[.agg (stC ⟨ph, 1, r0, r1, w0, w1, p0, p1, dl, gn, sw, fl⟩)] W fun e w' => e = .returned (.bool true) ∧ Below W.heap.size W w') := Lib.hid (fun W => by rw [← hrt]; exact mright_any ⟨ph, 1, r0, r1, w0, w1, p0, p1, dl, gn, sw, fl⟩ W)
  have HC0 : Hid (∀ W, Calls Try.prog 11 #[.agg (stC ⟨ph, 1, r0, r1, w0, w1, p0, p1, dl, gn, sw, fl⟩), .agg (vwC v), .int .i64 now] W fun e w' => e = .returned (.tuple #[.int .i64 0, .agg (recC (rcK 0 0))]) ∧ Below W.heap.size W w') := Lib.hid (fun W => by have h := hp.next ⟨ph, 1, r0, r1, w0, w1, p0, p1, dl, gn, sw, fl⟩ v now W hrt hv hn; rw [hx] at h; exact h)
  obtain ⟨cs, hcs⟩ : ∃ c, c = stC ⟨ph, 1, r0, r1, w0, w1, p0, p1, dl, gn, sw, fl⟩ := ⟨_, rfl⟩
  have HE_cs := Lib.hid hcs
  have HZ_cs : Hid (cs.size = 12) := Lib.hid (by rw [hcs]; rfl)
  have H1_cs : Hid (cs.all (·.oneCell') = true) := Lib.hid (by rw [hcs]; exact stC_one _)
  obtain ⟨vs, hvs⟩ : ∃ c, c = vwC v := ⟨_, rfl⟩
  have HE_vs := Lib.hid hvs
  have HZ_vs : Hid (vs.size = 4) := Lib.hid (by rw [hvs]; rfl)
  have H1_vs : Hid (vs.all (·.oneCell') = true) := Lib.hid (by rw [hvs]; exact vwC_one _)
  obtain ⟨rx, hrx⟩ : ∃ c, c = recC (rcK 0 0) := ⟨_, rfl⟩
  have HE_rx := Lib.hid hrx
  have HZ_rx : Hid (rx.size = 19) := Lib.hid (by rw [hrx]; rfl)
  have H1_rx : Hid (rx.all (·.oneCell') = true) := Lib.hid (by rw [hrx]; exact recC_one _)
  rw [← hcs] at HMR HC0
  rw [← hvs] at HC0
  rw [← hrx] at HC0
  have eqZ : ∀ W, (Op.equalIn 10000 31 (.agg rx) (.agg #[.int .i64 0, .int .i64 0, .int .i64 0, .int .i64 0, .int .i64 0, .int .i64 0, .bool false, .int .i64 0, .int .i64 0, .int .i64 0, .int .i64 0, .int .i64 0, .int .i64 0, .bool false, .bool false, .int .i64 0, .int .i64 0, .int .i64 0, .int .i64 0])).run Try.prog W = .ok true W := fun W => by rw [hrx]; exact eq31 (fits_rcK (k := 0) (g := 0) (by decide) (by decide)) W
  unfold stV vwV
  rw [← hcs, ← hvs]
  clear hcs hvs hrx hp hrt hx hv hn hs
  go_enter Try.func5, Try.ntmps5
  go_upto_region 1 with (fail)
  refine name_w (fun W => Rw W w.heap.size cs 25 ∧ Rw W (w.heap.size + 1) vs 27 ∧ Below w.heap.size w W) ⟨(Rw.new _ _ _).alloc _, ?_, ((Below.refl _ _).alloc (Nat.le_refl _) _).alloc (by simp) _⟩ ?_
  · have h1 := Rw.new (w.alloc (.cells cs 25)) vs 27
    rw [size_alloc] at h1
    exact h1
  rintro u0 ⟨h0, h1, h2⟩
  have R_A_0 := Lib.hid h0
  have R_B_0 := Lib.hid h1
  have BT0 := Lib.hid h2
  clear h0 h1 h2
  go_wp2_with fail
  refine (HAW.out _).mono ?_
  rintro e u1 ⟨rfl, hb⟩
  have R_A_1 := Lib.hid (R_A_0.out.under hb R_A_0.out.lt)
  have R_B_1 := Lib.hid (R_B_0.out.under hb R_B_0.out.lt)
  have BT1 := Lib.hid (BT0.out.trans (hb.mono BT0.out.size))
  clear hb BT0 R_A_0 R_B_0
  go_wp2_with (first | (refine wpList_load_any (by rfl) 25 (.tmp 3) rfl w.heap.size rfl 25 cs (0, 0) _ R_A_1.out Try.underlying25 rfl (by rw [HZ_cs.out]; exact i12) ?_))
  refine (HMR.out _).mono ?_
  rintro e u2 ⟨rfl, hb⟩
  have R_A_2 := Lib.hid (R_A_1.out.under hb R_A_1.out.lt)
  have R_B_2 := Lib.hid (R_B_1.out.under hb R_B_1.out.lt)
  have BT2 := Lib.hid (BT1.out.trans (hb.mono BT1.out.size))
  clear hb BT1 R_A_1 R_B_1
  clear HMR
  go_wp2_with (first | (refine wpList_load_any (by rfl) 25 (.tmp 3) rfl w.heap.size rfl 25 cs (0, 0) _ R_A_2.out Try.underlying25 rfl (by rw [HZ_cs.out]; exact i12) ?_) | (refine wpList_load_any (by rfl) 27 (.tmp 4) rfl (w.heap.size + 1) rfl 27 vs (0, 0) _ R_B_2.out Try.underlying27 rfl (by rw [HZ_vs.out]; exact iv4) ?_))
  refine (HC0.out _).mono ?_
  rintro e u3 ⟨rfl, hb⟩
  have R_A_3 := Lib.hid (R_A_2.out.under hb R_A_2.out.lt)
  have R_B_3 := Lib.hid (R_B_2.out.under hb R_B_2.out.lt)
  have BT3 := Lib.hid (BT2.out.trans (hb.mono BT2.out.size))
  clear hb BT2 R_A_2 R_B_2
  clear HC0 HAW
  go_upto_region 4 with (first | (refine wpList_plain rfl fun _ hK => wp_store_row 31 (.tmp 8) (.tmp 26) rfl u3.heap.size rx rfl rfl 31 _ (Rw.new u3 _ 31) (by rw [HZ_rx.out]; exact i19) (by rw [HZ_rx.out]; rfl) (H1_rx.out) (hK _ _ ?_); clear hK))
  obtain ⟨Q, hY⟩ : ∃ X, X = u3.heap.size := ⟨_, rfl⟩
  rw [← hY]
  refine name_w (fun W => Rw W w.heap.size cs 25 ∧ Rw W (w.heap.size + 1) vs 27 ∧ Rw W Q rx 31 ∧ Below w.heap.size w W) ?_ ?_
  · have bb := below_setRow ((Below.refl u3.heap.size u3).alloc (Nat.le_refl _) (.cells (recC (rcK 0 0)) 31)) (Nat.le_refl _) (b := u3.heap.size) rx
    rw [hY]
    exact ⟨R_A_3.out.under bb R_A_3.out.lt, R_B_3.out.under bb R_B_3.out.lt, (Rw.new u3 _ 31).set rx, BT3.out.trans (bb.mono BT3.out.size)⟩
  clear hY BT3 R_A_3 R_B_3
  rintro u4 ⟨h0, h1, h2, h3⟩
  have R_A_4 := Lib.hid h0
  have R_B_4 := Lib.hid h1
  have R_Q_4 := Lib.hid h2
  have BT4 := Lib.hid h3
  clear h0 h1 h2 h3
  have m1 : u4.cell? ⟨w.heap.size, 1, none⟩ = some (.int .i64 1) := by rw [R_A_4.out.cell 1, HE_cs.out]; rfl
  go_wp2_with (first | (refine wpList_load_any (by rfl) 31 (.tmp 8) rfl Q rfl 31 rx (0, 0) _ R_Q_4.out Try.underlying31 rfl (by rw [HZ_rx.out]; exact i19) ?_))
  go_ret
  exact ⟨rfl, BT4.out⟩
set_option maxRecDepth 100000 in
set_option maxHeartbeats 8000000 in
theorem warm1 (hp : PkgPl) (ph r0 r1 w0 w1 dl gn sw fl now : Int) (p0 p1 : Bool) (v : Vw) (w : World) (hs : FitsS ⟨ph, 1, r0, r1, w0, w1, p0, p1, dl, gn, sw, fl⟩) (hv : FitsV v) (hn : Fits now) (hrt : rightS ⟨ph, 1, r0, r1, w0, w1, p0, p1, dl, gn, sw, fl⟩ = true) (hx : nextS ⟨ph, 1, r0, r1, w0, w1, p0, p1, dl, gn, sw, fl⟩ v now = (1, rcK 3 0)) (hf : fullS ⟨ph, 1, r0, r1, w0, w1, p0, p1, dl, gn, sw, fl⟩ v 0 = true) : Calls Try.prog 5 #[stV ⟨ph, 1, r0, r1, w0, w1, p0, p1, dl, gn, sw, fl⟩, vwV v, .int .i64 now] w (Holds w) := by
  have HAW : Hid (∀ W, Calls Try.prog 9 #[] W fun e w' => e = .returned (.bool true) ∧ Below W.heap.size W w') := Lib.hid (awake_any hp)
  have HMR : Hid (∀ W, Calls Try.prog 10 #[.agg (stC ⟨ph, 1, r0, r1, w0, w1, p0, p1, dl, gn, sw, fl⟩)] W fun e w' => e = .returned (.bool true) ∧ Below W.heap.size W w') := Lib.hid (fun W => by rw [← hrt]; exact mright_any ⟨ph, 1, r0, r1, w0, w1, p0, p1, dl, gn, sw, fl⟩ W)
  have HC0 : Hid (∀ W, Calls Try.prog 11 #[.agg (stC ⟨ph, 1, r0, r1, w0, w1, p0, p1, dl, gn, sw, fl⟩), .agg (vwC v), .int .i64 now] W fun e w' => e = .returned (.tuple #[.int .i64 1, .agg (recC (rcK 3 0))]) ∧ Below W.heap.size W w') := Lib.hid (fun W => by have h := hp.next ⟨ph, 1, r0, r1, w0, w1, p0, p1, dl, gn, sw, fl⟩ v now W hrt hv hn; rw [hx] at h; exact h)
  have HFU : Hid (∀ W, Calls Try.prog 14 #[.agg (stC ⟨ph, 1, r0, r1, w0, w1, p0, p1, dl, gn, sw, fl⟩), .agg (vwC v), .int .i64 0] W fun e w' => e = .returned (.bool true) ∧ Below W.heap.size W w') := Lib.hid (fun W => by have h := mfull_any ⟨ph, 1, r0, r1, w0, w1, p0, p1, dl, gn, sw, fl⟩ v 0 W; rw [show fullS ⟨ph, 1, r0, r1, w0, w1, p0, p1, dl, gn, sw, fl⟩ v 0 = true from hf] at h; exact h)
  obtain ⟨cs, hcs⟩ : ∃ c, c = stC ⟨ph, 1, r0, r1, w0, w1, p0, p1, dl, gn, sw, fl⟩ := ⟨_, rfl⟩
  have HE_cs := Lib.hid hcs
  have HZ_cs : Hid (cs.size = 12) := Lib.hid (by rw [hcs]; rfl)
  have H1_cs : Hid (cs.all (·.oneCell') = true) := Lib.hid (by rw [hcs]; exact stC_one _)
  obtain ⟨vs, hvs⟩ : ∃ c, c = vwC v := ⟨_, rfl⟩
  have HE_vs := Lib.hid hvs
  have HZ_vs : Hid (vs.size = 4) := Lib.hid (by rw [hvs]; rfl)
  have H1_vs : Hid (vs.all (·.oneCell') = true) := Lib.hid (by rw [hvs]; exact vwC_one _)
  obtain ⟨rx, hrx⟩ : ∃ c, c = recC (rcK 3 0) := ⟨_, rfl⟩
  have HE_rx := Lib.hid hrx
  have HZ_rx : Hid (rx.size = 19) := Lib.hid (by rw [hrx]; rfl)
  have H1_rx : Hid (rx.all (·.oneCell') = true) := Lib.hid (by rw [hrx]; exact recC_one _)
  rw [← hcs] at HMR HC0 HFU
  rw [← hvs] at HC0 HFU
  rw [← hrx] at HC0
  unfold stV vwV
  rw [← hcs, ← hvs]
  clear hcs hvs hrx hp hrt hx hv hn hs hf
  go_enter Try.func5, Try.ntmps5
  go_upto_region 1 with (fail)
  refine name_w (fun W => Rw W w.heap.size cs 25 ∧ Rw W (w.heap.size + 1) vs 27 ∧ Below w.heap.size w W) ⟨(Rw.new _ _ _).alloc _, ?_, ((Below.refl _ _).alloc (Nat.le_refl _) _).alloc (by simp) _⟩ ?_
  · have h1 := Rw.new (w.alloc (.cells cs 25)) vs 27
    rw [size_alloc] at h1
    exact h1
  rintro u0 ⟨h0, h1, h2⟩
  have R_A_0 := Lib.hid h0
  have R_B_0 := Lib.hid h1
  have BT0 := Lib.hid h2
  clear h0 h1 h2
  go_wp2_with fail
  refine (HAW.out _).mono ?_
  rintro e u1 ⟨rfl, hb⟩
  have R_A_1 := Lib.hid (R_A_0.out.under hb R_A_0.out.lt)
  have R_B_1 := Lib.hid (R_B_0.out.under hb R_B_0.out.lt)
  have BT1 := Lib.hid (BT0.out.trans (hb.mono BT0.out.size))
  clear hb BT0 R_A_0 R_B_0
  go_wp2_with (first | (refine wpList_load_any (by rfl) 25 (.tmp 3) rfl w.heap.size rfl 25 cs (0, 0) _ R_A_1.out Try.underlying25 rfl (by rw [HZ_cs.out]; exact i12) ?_))
  refine (HMR.out _).mono ?_
  rintro e u2 ⟨rfl, hb⟩
  have R_A_2 := Lib.hid (R_A_1.out.under hb R_A_1.out.lt)
  have R_B_2 := Lib.hid (R_B_1.out.under hb R_B_1.out.lt)
  have BT2 := Lib.hid (BT1.out.trans (hb.mono BT1.out.size))
  clear hb BT1 R_A_1 R_B_1
  clear HMR
  go_wp2_with (first | (refine wpList_load_any (by rfl) 25 (.tmp 3) rfl w.heap.size rfl 25 cs (0, 0) _ R_A_2.out Try.underlying25 rfl (by rw [HZ_cs.out]; exact i12) ?_) | (refine wpList_load_any (by rfl) 27 (.tmp 4) rfl (w.heap.size + 1) rfl 27 vs (0, 0) _ R_B_2.out Try.underlying27 rfl (by rw [HZ_vs.out]; exact iv4) ?_))
  refine (HC0.out _).mono ?_
  rintro e u3 ⟨rfl, hb⟩
  have R_A_3 := Lib.hid (R_A_2.out.under hb R_A_2.out.lt)
  have R_B_3 := Lib.hid (R_B_2.out.under hb R_B_2.out.lt)
  have BT3 := Lib.hid (BT2.out.trans (hb.mono BT2.out.size))
  clear hb BT2 R_A_2 R_B_2
  clear HC0 HAW
  go_upto_region 4 with (first | (refine wpList_plain rfl fun _ hK => wp_store_row 31 (.tmp 8) (.tmp 26) rfl u3.heap.size rx rfl rfl 31 _ (Rw.new u3 _ 31) (by rw [HZ_rx.out]; exact i19) (by rw [HZ_rx.out]; rfl) (H1_rx.out) (hK _ _ ?_); clear hK))
  obtain ⟨Q, hY⟩ : ∃ X, X = u3.heap.size := ⟨_, rfl⟩
  rw [← hY]
  refine name_w (fun W => Rw W w.heap.size cs 25 ∧ Rw W (w.heap.size + 1) vs 27 ∧ Rw W Q rx 31 ∧ Below w.heap.size w W) ?_ ?_
  · have bb := below_setRow ((Below.refl u3.heap.size u3).alloc (Nat.le_refl _) (.cells (recC (rcK 0 0)) 31)) (Nat.le_refl _) (b := u3.heap.size) rx
    rw [hY]
    exact ⟨R_A_3.out.under bb R_A_3.out.lt, R_B_3.out.under bb R_B_3.out.lt, (Rw.new u3 _ 31).set rx, BT3.out.trans (bb.mono BT3.out.size)⟩
  clear hY BT3 R_A_3 R_B_3
  rintro u4 ⟨h0, h1, h2, h3⟩
  have R_A_4 := Lib.hid h0
  have R_B_4 := Lib.hid h1
  have R_Q_4 := Lib.hid h2
  have BT4 := Lib.hid h3
  clear h0 h1 h2 h3
  have m1 : u4.cell? ⟨w.heap.size, 1, none⟩ = some (.int .i64 1) := by rw [R_A_4.out.cell 1, HE_cs.out]; rfl
  have k0 : u4.cell? ⟨Q, 0, none⟩ = some (.int .i64 3) := by rw [R_Q_4.out.cell 0, HE_rx.out]; rfl
  go_wp2_with (first | (refine wpList_load_any (by rfl) 25 (.tmp 3) rfl w.heap.size rfl 25 cs (0, 0) _ R_A_4.out Try.underlying25 rfl (by rw [HZ_cs.out]; exact i12) ?_) | (refine wpList_load_any (by rfl) 27 (.tmp 4) rfl (w.heap.size + 1) rfl 27 vs (0, 0) _ R_B_4.out Try.underlying27 rfl (by rw [HZ_vs.out]; exact iv4) ?_))
  refine (HFU.out _).mono ?_
  rintro e u5 ⟨rfl, hb⟩
  have R_A_5 := Lib.hid (R_A_4.out.under hb R_A_4.out.lt)
  have R_B_5 := Lib.hid (R_B_4.out.under hb R_B_4.out.lt)
  have R_Q_5 := Lib.hid (R_Q_4.out.under hb R_Q_4.out.lt)
  have BT5 := Lib.hid (BT4.out.trans (hb.mono BT4.out.size))
  clear hb BT4 R_A_4 R_B_4 R_Q_4
  clear HFU
  have k1 : u5.cell? ⟨Q, 0, none⟩ = some (.int .i64 3) := by rw [R_Q_5.out.cell 0, HE_rx.out]; rfl
  go_wp2_with fail
  go_ret
  exact ⟨rfl, BT5.out⟩
set_option maxRecDepth 100000 in
set_option maxHeartbeats 8000000 in
theorem prep1 (hp : PkgPl) (ph r0 r1 w0 w1 dl gn sw fl now : Int) (p0 p1 : Bool) (v : Vw) (w : World) (hs : FitsS ⟨ph, 1, r0, r1, w0, w1, p0, p1, dl, gn, sw, fl⟩) (hv : FitsV v) (hn : Fits now) (hrt : rightS ⟨ph, 1, r0, r1, w0, w1, p0, p1, dl, gn, sw, fl⟩ = true) (hx : nextS ⟨ph, 1, r0, r1, w0, w1, p0, p1, dl, gn, sw, fl⟩ v now = (2, rcK 5 (gn + 1))) (hf : fullS ⟨ph, 1, r0, r1, w0, w1, p0, p1, dl, gn, sw, fl⟩ v 0 = true) (hpo : p0 = true) : Calls Try.prog 5 #[stV ⟨ph, 1, r0, r1, w0, w1, p0, p1, dl, gn, sw, fl⟩, vwV v, .int .i64 now] w (Holds w) := by
  have HPO := Lib.hid hpo
  clear hpo
  have HAW : Hid (∀ W, Calls Try.prog 9 #[] W fun e w' => e = .returned (.bool true) ∧ Below W.heap.size W w') := Lib.hid (awake_any hp)
  have HMR : Hid (∀ W, Calls Try.prog 10 #[.agg (stC ⟨ph, 1, r0, r1, w0, w1, p0, p1, dl, gn, sw, fl⟩)] W fun e w' => e = .returned (.bool true) ∧ Below W.heap.size W w') := Lib.hid (fun W => by rw [← hrt]; exact mright_any ⟨ph, 1, r0, r1, w0, w1, p0, p1, dl, gn, sw, fl⟩ W)
  have HC0 : Hid (∀ W, Calls Try.prog 11 #[.agg (stC ⟨ph, 1, r0, r1, w0, w1, p0, p1, dl, gn, sw, fl⟩), .agg (vwC v), .int .i64 now] W fun e w' => e = .returned (.tuple #[.int .i64 2, .agg (recC (rcK 5 (gn + 1)))]) ∧ Below W.heap.size W w') := Lib.hid (fun W => by have h := hp.next ⟨ph, 1, r0, r1, w0, w1, p0, p1, dl, gn, sw, fl⟩ v now W hrt hv hn; rw [hx] at h; exact h)
  have HFU : Hid (∀ W, Calls Try.prog 14 #[.agg (stC ⟨ph, 1, r0, r1, w0, w1, p0, p1, dl, gn, sw, fl⟩), .agg (vwC v), .int .i64 0] W fun e w' => e = .returned (.bool true) ∧ Below W.heap.size W w') := Lib.hid (fun W => by have h := mfull_any ⟨ph, 1, r0, r1, w0, w1, p0, p1, dl, gn, sw, fl⟩ v 0 W; rw [show fullS ⟨ph, 1, r0, r1, w0, w1, p0, p1, dl, gn, sw, fl⟩ v 0 = true from hf] at h; exact h)
  obtain ⟨cs, hcs⟩ : ∃ c, c = stC ⟨ph, 1, r0, r1, w0, w1, p0, p1, dl, gn, sw, fl⟩ := ⟨_, rfl⟩
  have HE_cs := Lib.hid hcs
  have HZ_cs : Hid (cs.size = 12) := Lib.hid (by rw [hcs]; rfl)
  have H1_cs : Hid (cs.all (·.oneCell') = true) := Lib.hid (by rw [hcs]; exact stC_one _)
  obtain ⟨vs, hvs⟩ : ∃ c, c = vwC v := ⟨_, rfl⟩
  have HE_vs := Lib.hid hvs
  have HZ_vs : Hid (vs.size = 4) := Lib.hid (by rw [hvs]; rfl)
  have H1_vs : Hid (vs.all (·.oneCell') = true) := Lib.hid (by rw [hvs]; exact vwC_one _)
  obtain ⟨rx, hrx⟩ : ∃ c, c = recC (rcK 5 (gn + 1)) := ⟨_, rfl⟩
  have HE_rx := Lib.hid hrx
  have HZ_rx : Hid (rx.size = 19) := Lib.hid (by rw [hrx]; rfl)
  have H1_rx : Hid (rx.all (·.oneCell') = true) := Lib.hid (by rw [hrx]; exact recC_one _)
  rw [← hcs] at HMR HC0 HFU
  rw [← hvs] at HC0 HFU
  rw [← hrx] at HC0
  unfold stV vwV
  rw [← hcs, ← hvs]
  clear hcs hvs hrx hp hrt hx hv hn hs hf
  go_enter Try.func5, Try.ntmps5
  go_upto_region 1 with (fail)
  refine name_w (fun W => Rw W w.heap.size cs 25 ∧ Rw W (w.heap.size + 1) vs 27 ∧ Below w.heap.size w W) ⟨(Rw.new _ _ _).alloc _, ?_, ((Below.refl _ _).alloc (Nat.le_refl _) _).alloc (by simp) _⟩ ?_
  · have h1 := Rw.new (w.alloc (.cells cs 25)) vs 27
    rw [size_alloc] at h1
    exact h1
  rintro u0 ⟨h0, h1, h2⟩
  have R_A_0 := Lib.hid h0
  have R_B_0 := Lib.hid h1
  have BT0 := Lib.hid h2
  clear h0 h1 h2
  go_wp2_with fail
  refine (HAW.out _).mono ?_
  rintro e u1 ⟨rfl, hb⟩
  have R_A_1 := Lib.hid (R_A_0.out.under hb R_A_0.out.lt)
  have R_B_1 := Lib.hid (R_B_0.out.under hb R_B_0.out.lt)
  have BT1 := Lib.hid (BT0.out.trans (hb.mono BT0.out.size))
  clear hb BT0 R_A_0 R_B_0
  go_wp2_with (first | (refine wpList_load_any (by rfl) 25 (.tmp 3) rfl w.heap.size rfl 25 cs (0, 0) _ R_A_1.out Try.underlying25 rfl (by rw [HZ_cs.out]; exact i12) ?_))
  refine (HMR.out _).mono ?_
  rintro e u2 ⟨rfl, hb⟩
  have R_A_2 := Lib.hid (R_A_1.out.under hb R_A_1.out.lt)
  have R_B_2 := Lib.hid (R_B_1.out.under hb R_B_1.out.lt)
  have BT2 := Lib.hid (BT1.out.trans (hb.mono BT1.out.size))
  clear hb BT1 R_A_1 R_B_1
  clear HMR
  go_wp2_with (first | (refine wpList_load_any (by rfl) 25 (.tmp 3) rfl w.heap.size rfl 25 cs (0, 0) _ R_A_2.out Try.underlying25 rfl (by rw [HZ_cs.out]; exact i12) ?_) | (refine wpList_load_any (by rfl) 27 (.tmp 4) rfl (w.heap.size + 1) rfl 27 vs (0, 0) _ R_B_2.out Try.underlying27 rfl (by rw [HZ_vs.out]; exact iv4) ?_))
  refine (HC0.out _).mono ?_
  rintro e u3 ⟨rfl, hb⟩
  have R_A_3 := Lib.hid (R_A_2.out.under hb R_A_2.out.lt)
  have R_B_3 := Lib.hid (R_B_2.out.under hb R_B_2.out.lt)
  have BT3 := Lib.hid (BT2.out.trans (hb.mono BT2.out.size))
  clear hb BT2 R_A_2 R_B_2
  clear HC0 HAW
  go_upto_region 4 with (first | (refine wpList_plain rfl fun _ hK => wp_store_row 31 (.tmp 8) (.tmp 26) rfl u3.heap.size rx rfl rfl 31 _ (Rw.new u3 _ 31) (by rw [HZ_rx.out]; exact i19) (by rw [HZ_rx.out]; rfl) (H1_rx.out) (hK _ _ ?_); clear hK))
  obtain ⟨Q, hY⟩ : ∃ X, X = u3.heap.size := ⟨_, rfl⟩
  rw [← hY]
  refine name_w (fun W => Rw W w.heap.size cs 25 ∧ Rw W (w.heap.size + 1) vs 27 ∧ Rw W Q rx 31 ∧ Below w.heap.size w W) ?_ ?_
  · have bb := below_setRow ((Below.refl u3.heap.size u3).alloc (Nat.le_refl _) (.cells (recC (rcK 0 0)) 31)) (Nat.le_refl _) (b := u3.heap.size) rx
    rw [hY]
    exact ⟨R_A_3.out.under bb R_A_3.out.lt, R_B_3.out.under bb R_B_3.out.lt, (Rw.new u3 _ 31).set rx, BT3.out.trans (bb.mono BT3.out.size)⟩
  clear hY BT3 R_A_3 R_B_3
  rintro u4 ⟨h0, h1, h2, h3⟩
  have R_A_4 := Lib.hid h0
  have R_B_4 := Lib.hid h1
  have R_Q_4 := Lib.hid h2
  have BT4 := Lib.hid h3
  clear h0 h1 h2 h3
  have m1 : u4.cell? ⟨w.heap.size, 1, none⟩ = some (.int .i64 1) := by rw [R_A_4.out.cell 1, HE_cs.out]; rfl
  have k0 : u4.cell? ⟨Q, 0, none⟩ = some (.int .i64 5) := by rw [R_Q_4.out.cell 0, HE_rx.out]; rfl
  have q0 : u4.cell? ⟨w.heap.size, 6, none⟩ = some (.bool p0) := by rw [R_A_4.out.cell 6, HE_cs.out]; rfl
  rw [HPO.out] at q0
  go_wp2_with (first | (refine wpList_load_any (by rfl) 25 (.tmp 3) rfl w.heap.size rfl 25 cs (0, 0) _ R_A_4.out Try.underlying25 rfl (by rw [HZ_cs.out]; exact i12) ?_) | (refine wpList_load_any (by rfl) 27 (.tmp 4) rfl (w.heap.size + 1) rfl 27 vs (0, 0) _ R_B_4.out Try.underlying27 rfl (by rw [HZ_vs.out]; exact iv4) ?_))
  refine (HFU.out _).mono ?_
  rintro e u5 ⟨rfl, hb⟩
  have R_A_5 := Lib.hid (R_A_4.out.under hb R_A_4.out.lt)
  have R_B_5 := Lib.hid (R_B_4.out.under hb R_B_4.out.lt)
  have R_Q_5 := Lib.hid (R_Q_4.out.under hb R_Q_4.out.lt)
  have BT5 := Lib.hid (BT4.out.trans (hb.mono BT4.out.size))
  clear hb BT4 R_A_4 R_B_4 R_Q_4
  clear HFU
  have k1 : u5.cell? ⟨Q, 0, none⟩ = some (.int .i64 5) := by rw [R_Q_5.out.cell 0, HE_rx.out]; rfl
  have q1 : u5.cell? ⟨w.heap.size, 6, none⟩ = some (.bool p0) := by rw [R_A_5.out.cell 6, HE_cs.out]; rfl
  rw [HPO.out] at q1
  go_wp2_with fail
  go_ret
  exact ⟨rfl, BT5.out⟩
set_option maxRecDepth 100000 in
set_option maxHeartbeats 8000000 in
theorem comm1 (hp : PkgPl) (ph r0 r1 w0 w1 dl gn sw fl now : Int) (p0 p1 : Bool) (v : Vw) (w : World) (hs : FitsS ⟨ph, 1, r0, r1, w0, w1, p0, p1, dl, gn, sw, fl⟩) (hv : FitsV v) (hn : Fits now) (hrt : rightS ⟨ph, 1, r0, r1, w0, w1, p0, p1, dl, gn, sw, fl⟩ = true) (hx : nextS ⟨ph, 1, r0, r1, w0, w1, p0, p1, dl, gn, sw, fl⟩ v now = (3, rcK 6 gn)) (hf : fullS ⟨ph, 1, r0, r1, w0, w1, p0, p1, dl, gn, sw, fl⟩ v 0 = true) (hpo : p0 = true) : Calls Try.prog 5 #[stV ⟨ph, 1, r0, r1, w0, w1, p0, p1, dl, gn, sw, fl⟩, vwV v, .int .i64 now] w (Holds w) := by
  have HPO := Lib.hid hpo
  clear hpo
  have HAW : Hid (∀ W, Calls Try.prog 9 #[] W fun e w' => e = .returned (.bool true) ∧ Below W.heap.size W w') := Lib.hid (awake_any hp)
  have HMR : Hid (∀ W, Calls Try.prog 10 #[.agg (stC ⟨ph, 1, r0, r1, w0, w1, p0, p1, dl, gn, sw, fl⟩)] W fun e w' => e = .returned (.bool true) ∧ Below W.heap.size W w') := Lib.hid (fun W => by rw [← hrt]; exact mright_any ⟨ph, 1, r0, r1, w0, w1, p0, p1, dl, gn, sw, fl⟩ W)
  have HC0 : Hid (∀ W, Calls Try.prog 11 #[.agg (stC ⟨ph, 1, r0, r1, w0, w1, p0, p1, dl, gn, sw, fl⟩), .agg (vwC v), .int .i64 now] W fun e w' => e = .returned (.tuple #[.int .i64 3, .agg (recC (rcK 6 gn))]) ∧ Below W.heap.size W w') := Lib.hid (fun W => by have h := hp.next ⟨ph, 1, r0, r1, w0, w1, p0, p1, dl, gn, sw, fl⟩ v now W hrt hv hn; rw [hx] at h; exact h)
  have HFU : Hid (∀ W, Calls Try.prog 14 #[.agg (stC ⟨ph, 1, r0, r1, w0, w1, p0, p1, dl, gn, sw, fl⟩), .agg (vwC v), .int .i64 0] W fun e w' => e = .returned (.bool true) ∧ Below W.heap.size W w') := Lib.hid (fun W => by have h := mfull_any ⟨ph, 1, r0, r1, w0, w1, p0, p1, dl, gn, sw, fl⟩ v 0 W; rw [show fullS ⟨ph, 1, r0, r1, w0, w1, p0, p1, dl, gn, sw, fl⟩ v 0 = true from hf] at h; exact h)
  obtain ⟨cs, hcs⟩ : ∃ c, c = stC ⟨ph, 1, r0, r1, w0, w1, p0, p1, dl, gn, sw, fl⟩ := ⟨_, rfl⟩
  have HE_cs := Lib.hid hcs
  have HZ_cs : Hid (cs.size = 12) := Lib.hid (by rw [hcs]; rfl)
  have H1_cs : Hid (cs.all (·.oneCell') = true) := Lib.hid (by rw [hcs]; exact stC_one _)
  obtain ⟨vs, hvs⟩ : ∃ c, c = vwC v := ⟨_, rfl⟩
  have HE_vs := Lib.hid hvs
  have HZ_vs : Hid (vs.size = 4) := Lib.hid (by rw [hvs]; rfl)
  have H1_vs : Hid (vs.all (·.oneCell') = true) := Lib.hid (by rw [hvs]; exact vwC_one _)
  obtain ⟨rx, hrx⟩ : ∃ c, c = recC (rcK 6 gn) := ⟨_, rfl⟩
  have HE_rx := Lib.hid hrx
  have HZ_rx : Hid (rx.size = 19) := Lib.hid (by rw [hrx]; rfl)
  have H1_rx : Hid (rx.all (·.oneCell') = true) := Lib.hid (by rw [hrx]; exact recC_one _)
  rw [← hcs] at HMR HC0 HFU
  rw [← hvs] at HC0 HFU
  rw [← hrx] at HC0
  unfold stV vwV
  rw [← hcs, ← hvs]
  clear hcs hvs hrx hp hrt hx hv hn hs hf
  go_enter Try.func5, Try.ntmps5
  go_upto_region 1 with (fail)
  refine name_w (fun W => Rw W w.heap.size cs 25 ∧ Rw W (w.heap.size + 1) vs 27 ∧ Below w.heap.size w W) ⟨(Rw.new _ _ _).alloc _, ?_, ((Below.refl _ _).alloc (Nat.le_refl _) _).alloc (by simp) _⟩ ?_
  · have h1 := Rw.new (w.alloc (.cells cs 25)) vs 27
    rw [size_alloc] at h1
    exact h1
  rintro u0 ⟨h0, h1, h2⟩
  have R_A_0 := Lib.hid h0
  have R_B_0 := Lib.hid h1
  have BT0 := Lib.hid h2
  clear h0 h1 h2
  go_wp2_with fail
  refine (HAW.out _).mono ?_
  rintro e u1 ⟨rfl, hb⟩
  have R_A_1 := Lib.hid (R_A_0.out.under hb R_A_0.out.lt)
  have R_B_1 := Lib.hid (R_B_0.out.under hb R_B_0.out.lt)
  have BT1 := Lib.hid (BT0.out.trans (hb.mono BT0.out.size))
  clear hb BT0 R_A_0 R_B_0
  go_wp2_with (first | (refine wpList_load_any (by rfl) 25 (.tmp 3) rfl w.heap.size rfl 25 cs (0, 0) _ R_A_1.out Try.underlying25 rfl (by rw [HZ_cs.out]; exact i12) ?_))
  refine (HMR.out _).mono ?_
  rintro e u2 ⟨rfl, hb⟩
  have R_A_2 := Lib.hid (R_A_1.out.under hb R_A_1.out.lt)
  have R_B_2 := Lib.hid (R_B_1.out.under hb R_B_1.out.lt)
  have BT2 := Lib.hid (BT1.out.trans (hb.mono BT1.out.size))
  clear hb BT1 R_A_1 R_B_1
  clear HMR
  go_wp2_with (first | (refine wpList_load_any (by rfl) 25 (.tmp 3) rfl w.heap.size rfl 25 cs (0, 0) _ R_A_2.out Try.underlying25 rfl (by rw [HZ_cs.out]; exact i12) ?_) | (refine wpList_load_any (by rfl) 27 (.tmp 4) rfl (w.heap.size + 1) rfl 27 vs (0, 0) _ R_B_2.out Try.underlying27 rfl (by rw [HZ_vs.out]; exact iv4) ?_))
  refine (HC0.out _).mono ?_
  rintro e u3 ⟨rfl, hb⟩
  have R_A_3 := Lib.hid (R_A_2.out.under hb R_A_2.out.lt)
  have R_B_3 := Lib.hid (R_B_2.out.under hb R_B_2.out.lt)
  have BT3 := Lib.hid (BT2.out.trans (hb.mono BT2.out.size))
  clear hb BT2 R_A_2 R_B_2
  clear HC0 HAW
  go_upto_region 4 with (first | (refine wpList_plain rfl fun _ hK => wp_store_row 31 (.tmp 8) (.tmp 26) rfl u3.heap.size rx rfl rfl 31 _ (Rw.new u3 _ 31) (by rw [HZ_rx.out]; exact i19) (by rw [HZ_rx.out]; rfl) (H1_rx.out) (hK _ _ ?_); clear hK))
  obtain ⟨Q, hY⟩ : ∃ X, X = u3.heap.size := ⟨_, rfl⟩
  rw [← hY]
  refine name_w (fun W => Rw W w.heap.size cs 25 ∧ Rw W (w.heap.size + 1) vs 27 ∧ Rw W Q rx 31 ∧ Below w.heap.size w W) ?_ ?_
  · have bb := below_setRow ((Below.refl u3.heap.size u3).alloc (Nat.le_refl _) (.cells (recC (rcK 0 0)) 31)) (Nat.le_refl _) (b := u3.heap.size) rx
    rw [hY]
    exact ⟨R_A_3.out.under bb R_A_3.out.lt, R_B_3.out.under bb R_B_3.out.lt, (Rw.new u3 _ 31).set rx, BT3.out.trans (bb.mono BT3.out.size)⟩
  clear hY BT3 R_A_3 R_B_3
  rintro u4 ⟨h0, h1, h2, h3⟩
  have R_A_4 := Lib.hid h0
  have R_B_4 := Lib.hid h1
  have R_Q_4 := Lib.hid h2
  have BT4 := Lib.hid h3
  clear h0 h1 h2 h3
  have m1 : u4.cell? ⟨w.heap.size, 1, none⟩ = some (.int .i64 1) := by rw [R_A_4.out.cell 1, HE_cs.out]; rfl
  have k0 : u4.cell? ⟨Q, 0, none⟩ = some (.int .i64 6) := by rw [R_Q_4.out.cell 0, HE_rx.out]; rfl
  have q0 : u4.cell? ⟨w.heap.size, 6, none⟩ = some (.bool p0) := by rw [R_A_4.out.cell 6, HE_cs.out]; rfl
  rw [HPO.out] at q0
  go_wp2_with (first | (refine wpList_load_any (by rfl) 25 (.tmp 3) rfl w.heap.size rfl 25 cs (0, 0) _ R_A_4.out Try.underlying25 rfl (by rw [HZ_cs.out]; exact i12) ?_) | (refine wpList_load_any (by rfl) 27 (.tmp 4) rfl (w.heap.size + 1) rfl 27 vs (0, 0) _ R_B_4.out Try.underlying27 rfl (by rw [HZ_vs.out]; exact iv4) ?_))
  refine (HFU.out _).mono ?_
  rintro e u5 ⟨rfl, hb⟩
  have R_A_5 := Lib.hid (R_A_4.out.under hb R_A_4.out.lt)
  have R_B_5 := Lib.hid (R_B_4.out.under hb R_B_4.out.lt)
  have R_Q_5 := Lib.hid (R_Q_4.out.under hb R_Q_4.out.lt)
  have BT5 := Lib.hid (BT4.out.trans (hb.mono BT4.out.size))
  clear hb BT4 R_A_4 R_B_4 R_Q_4
  clear HFU
  have k1 : u5.cell? ⟨Q, 0, none⟩ = some (.int .i64 6) := by rw [R_Q_5.out.cell 0, HE_rx.out]; rfl
  have q1 : u5.cell? ⟨w.heap.size, 6, none⟩ = some (.bool p0) := by rw [R_A_5.out.cell 6, HE_cs.out]; rfl
  rw [HPO.out] at q1
  go_wp2_with fail
  go_ret
  exact ⟨rfl, BT5.out⟩
set_option maxRecDepth 100000 in
set_option maxHeartbeats 8000000 in
theorem canc1 (hp : PkgPl) (ph r0 r1 w0 w1 dl gn sw fl now : Int) (p0 p1 : Bool) (v : Vw) (w : World) (hs : FitsS ⟨ph, 1, r0, r1, w0, w1, p0, p1, dl, gn, sw, fl⟩) (hv : FitsV v) (hn : Fits now) (hrt : rightS ⟨ph, 1, r0, r1, w0, w1, p0, p1, dl, gn, sw, fl⟩ = true) (hx : nextS ⟨ph, 1, r0, r1, w0, w1, p0, p1, dl, gn, sw, fl⟩ v now = (4, rcK 7 gn)) : Calls Try.prog 5 #[stV ⟨ph, 1, r0, r1, w0, w1, p0, p1, dl, gn, sw, fl⟩, vwV v, .int .i64 now] w (Holds w) := by
  have HAW : Hid (∀ W, Calls Try.prog 9 #[] W fun e w' => e = .returned (.bool true) ∧ Below W.heap.size W w') := Lib.hid (awake_any hp)
  have HMR : Hid (∀ W, Calls Try.prog 10 #[.agg (stC ⟨ph, 1, r0, r1, w0, w1, p0, p1, dl, gn, sw, fl⟩)] W fun e w' => e = .returned (.bool true) ∧ Below W.heap.size W w') := Lib.hid (fun W => by rw [← hrt]; exact mright_any ⟨ph, 1, r0, r1, w0, w1, p0, p1, dl, gn, sw, fl⟩ W)
  have HC0 : Hid (∀ W, Calls Try.prog 11 #[.agg (stC ⟨ph, 1, r0, r1, w0, w1, p0, p1, dl, gn, sw, fl⟩), .agg (vwC v), .int .i64 now] W fun e w' => e = .returned (.tuple #[.int .i64 4, .agg (recC (rcK 7 gn))]) ∧ Below W.heap.size W w') := Lib.hid (fun W => by have h := hp.next ⟨ph, 1, r0, r1, w0, w1, p0, p1, dl, gn, sw, fl⟩ v now W hrt hv hn; rw [hx] at h; exact h)
  obtain ⟨cs, hcs⟩ : ∃ c, c = stC ⟨ph, 1, r0, r1, w0, w1, p0, p1, dl, gn, sw, fl⟩ := ⟨_, rfl⟩
  have HE_cs := Lib.hid hcs
  have HZ_cs : Hid (cs.size = 12) := Lib.hid (by rw [hcs]; rfl)
  have H1_cs : Hid (cs.all (·.oneCell') = true) := Lib.hid (by rw [hcs]; exact stC_one _)
  obtain ⟨vs, hvs⟩ : ∃ c, c = vwC v := ⟨_, rfl⟩
  have HE_vs := Lib.hid hvs
  have HZ_vs : Hid (vs.size = 4) := Lib.hid (by rw [hvs]; rfl)
  have H1_vs : Hid (vs.all (·.oneCell') = true) := Lib.hid (by rw [hvs]; exact vwC_one _)
  obtain ⟨rx, hrx⟩ : ∃ c, c = recC (rcK 7 gn) := ⟨_, rfl⟩
  have HE_rx := Lib.hid hrx
  have HZ_rx : Hid (rx.size = 19) := Lib.hid (by rw [hrx]; rfl)
  have H1_rx : Hid (rx.all (·.oneCell') = true) := Lib.hid (by rw [hrx]; exact recC_one _)
  rw [← hcs] at HMR HC0
  rw [← hvs] at HC0
  rw [← hrx] at HC0
  unfold stV vwV
  rw [← hcs, ← hvs]
  clear hcs hvs hrx hp hrt hx hv hn hs
  go_enter Try.func5, Try.ntmps5
  go_upto_region 1 with (fail)
  refine name_w (fun W => Rw W w.heap.size cs 25 ∧ Rw W (w.heap.size + 1) vs 27 ∧ Below w.heap.size w W) ⟨(Rw.new _ _ _).alloc _, ?_, ((Below.refl _ _).alloc (Nat.le_refl _) _).alloc (by simp) _⟩ ?_
  · have h1 := Rw.new (w.alloc (.cells cs 25)) vs 27
    rw [size_alloc] at h1
    exact h1
  rintro u0 ⟨h0, h1, h2⟩
  have R_A_0 := Lib.hid h0
  have R_B_0 := Lib.hid h1
  have BT0 := Lib.hid h2
  clear h0 h1 h2
  go_wp2_with fail
  refine (HAW.out _).mono ?_
  rintro e u1 ⟨rfl, hb⟩
  have R_A_1 := Lib.hid (R_A_0.out.under hb R_A_0.out.lt)
  have R_B_1 := Lib.hid (R_B_0.out.under hb R_B_0.out.lt)
  have BT1 := Lib.hid (BT0.out.trans (hb.mono BT0.out.size))
  clear hb BT0 R_A_0 R_B_0
  go_wp2_with (first | (refine wpList_load_any (by rfl) 25 (.tmp 3) rfl w.heap.size rfl 25 cs (0, 0) _ R_A_1.out Try.underlying25 rfl (by rw [HZ_cs.out]; exact i12) ?_))
  refine (HMR.out _).mono ?_
  rintro e u2 ⟨rfl, hb⟩
  have R_A_2 := Lib.hid (R_A_1.out.under hb R_A_1.out.lt)
  have R_B_2 := Lib.hid (R_B_1.out.under hb R_B_1.out.lt)
  have BT2 := Lib.hid (BT1.out.trans (hb.mono BT1.out.size))
  clear hb BT1 R_A_1 R_B_1
  clear HMR
  go_wp2_with (first | (refine wpList_load_any (by rfl) 25 (.tmp 3) rfl w.heap.size rfl 25 cs (0, 0) _ R_A_2.out Try.underlying25 rfl (by rw [HZ_cs.out]; exact i12) ?_) | (refine wpList_load_any (by rfl) 27 (.tmp 4) rfl (w.heap.size + 1) rfl 27 vs (0, 0) _ R_B_2.out Try.underlying27 rfl (by rw [HZ_vs.out]; exact iv4) ?_))
  refine (HC0.out _).mono ?_
  rintro e u3 ⟨rfl, hb⟩
  have R_A_3 := Lib.hid (R_A_2.out.under hb R_A_2.out.lt)
  have R_B_3 := Lib.hid (R_B_2.out.under hb R_B_2.out.lt)
  have BT3 := Lib.hid (BT2.out.trans (hb.mono BT2.out.size))
  clear hb BT2 R_A_2 R_B_2
  clear HC0 HAW
  go_upto_region 4 with (first | (refine wpList_plain rfl fun _ hK => wp_store_row 31 (.tmp 8) (.tmp 26) rfl u3.heap.size rx rfl rfl 31 _ (Rw.new u3 _ 31) (by rw [HZ_rx.out]; exact i19) (by rw [HZ_rx.out]; rfl) (H1_rx.out) (hK _ _ ?_); clear hK))
  obtain ⟨Q, hY⟩ : ∃ X, X = u3.heap.size := ⟨_, rfl⟩
  rw [← hY]
  refine name_w (fun W => Rw W w.heap.size cs 25 ∧ Rw W (w.heap.size + 1) vs 27 ∧ Rw W Q rx 31 ∧ Below w.heap.size w W) ?_ ?_
  · have bb := below_setRow ((Below.refl u3.heap.size u3).alloc (Nat.le_refl _) (.cells (recC (rcK 0 0)) 31)) (Nat.le_refl _) (b := u3.heap.size) rx
    rw [hY]
    exact ⟨R_A_3.out.under bb R_A_3.out.lt, R_B_3.out.under bb R_B_3.out.lt, (Rw.new u3 _ 31).set rx, BT3.out.trans (bb.mono BT3.out.size)⟩
  clear hY BT3 R_A_3 R_B_3
  rintro u4 ⟨h0, h1, h2, h3⟩
  have R_A_4 := Lib.hid h0
  have R_B_4 := Lib.hid h1
  have R_Q_4 := Lib.hid h2
  have BT4 := Lib.hid h3
  clear h0 h1 h2 h3
  have m1 : u4.cell? ⟨w.heap.size, 1, none⟩ = some (.int .i64 1) := by rw [R_A_4.out.cell 1, HE_cs.out]; rfl
  have k0 : u4.cell? ⟨Q, 0, none⟩ = some (.int .i64 7) := by rw [R_Q_4.out.cell 0, HE_rx.out]; rfl
  go_wp2_with fail
  go_ret
  exact ⟨rfl, BT4.out⟩
set_option maxRecDepth 100000 in
set_option maxHeartbeats 8000000 in
theorem rout1 (hp : PkgPl) (ph r0 r1 w0 w1 dl gn sw fl now : Int) (p0 p1 : Bool) (v : Vw) (w : World) (hs : FitsS ⟨ph, 1, r0, r1, w0, w1, p0, p1, dl, gn, sw, fl⟩) (hv : FitsV v) (hn : Fits now) (hrt : rightS ⟨ph, 1, r0, r1, w0, w1, p0, p1, dl, gn, sw, fl⟩ = true) (hx : nextS ⟨ph, 1, r0, r1, w0, w1, p0, p1, dl, gn, sw, fl⟩ v now = (5, rcK 0 0)) (hsw : sw = 2) : Calls Try.prog 5 #[stV ⟨ph, 1, r0, r1, w0, w1, p0, p1, dl, gn, sw, fl⟩, vwV v, .int .i64 now] w (Holds w) := by
  have HSW := Lib.hid hsw
  clear hsw
  have HAW : Hid (∀ W, Calls Try.prog 9 #[] W fun e w' => e = .returned (.bool true) ∧ Below W.heap.size W w') := Lib.hid (awake_any hp)
  have HMR : Hid (∀ W, Calls Try.prog 10 #[.agg (stC ⟨ph, 1, r0, r1, w0, w1, p0, p1, dl, gn, sw, fl⟩)] W fun e w' => e = .returned (.bool true) ∧ Below W.heap.size W w') := Lib.hid (fun W => by rw [← hrt]; exact mright_any ⟨ph, 1, r0, r1, w0, w1, p0, p1, dl, gn, sw, fl⟩ W)
  have HC0 : Hid (∀ W, Calls Try.prog 11 #[.agg (stC ⟨ph, 1, r0, r1, w0, w1, p0, p1, dl, gn, sw, fl⟩), .agg (vwC v), .int .i64 now] W fun e w' => e = .returned (.tuple #[.int .i64 5, .agg (recC (rcK 0 0))]) ∧ Below W.heap.size W w') := Lib.hid (fun W => by have h := hp.next ⟨ph, 1, r0, r1, w0, w1, p0, p1, dl, gn, sw, fl⟩ v now W hrt hv hn; rw [hx] at h; exact h)
  obtain ⟨cs, hcs⟩ : ∃ c, c = stC ⟨ph, 1, r0, r1, w0, w1, p0, p1, dl, gn, sw, fl⟩ := ⟨_, rfl⟩
  have HE_cs := Lib.hid hcs
  have HZ_cs : Hid (cs.size = 12) := Lib.hid (by rw [hcs]; rfl)
  have H1_cs : Hid (cs.all (·.oneCell') = true) := Lib.hid (by rw [hcs]; exact stC_one _)
  obtain ⟨vs, hvs⟩ : ∃ c, c = vwC v := ⟨_, rfl⟩
  have HE_vs := Lib.hid hvs
  have HZ_vs : Hid (vs.size = 4) := Lib.hid (by rw [hvs]; rfl)
  have H1_vs : Hid (vs.all (·.oneCell') = true) := Lib.hid (by rw [hvs]; exact vwC_one _)
  obtain ⟨rx, hrx⟩ : ∃ c, c = recC (rcK 0 0) := ⟨_, rfl⟩
  have HE_rx := Lib.hid hrx
  have HZ_rx : Hid (rx.size = 19) := Lib.hid (by rw [hrx]; rfl)
  have H1_rx : Hid (rx.all (·.oneCell') = true) := Lib.hid (by rw [hrx]; exact recC_one _)
  rw [← hcs] at HMR HC0
  rw [← hvs] at HC0
  rw [← hrx] at HC0
  have eqZ : ∀ W, (Op.equalIn 10000 31 (.agg rx) (.agg #[.int .i64 0, .int .i64 0, .int .i64 0, .int .i64 0, .int .i64 0, .int .i64 0, .bool false, .int .i64 0, .int .i64 0, .int .i64 0, .int .i64 0, .int .i64 0, .int .i64 0, .bool false, .bool false, .int .i64 0, .int .i64 0, .int .i64 0, .int .i64 0])).run Try.prog W = .ok true W := fun W => by rw [hrx]; exact eq31 (fits_rcK (k := 0) (g := 0) (by decide) (by decide)) W
  unfold stV vwV
  rw [← hcs, ← hvs]
  clear hcs hvs hrx hp hrt hx hv hn hs
  go_enter Try.func5, Try.ntmps5
  go_upto_region 1 with (fail)
  refine name_w (fun W => Rw W w.heap.size cs 25 ∧ Rw W (w.heap.size + 1) vs 27 ∧ Below w.heap.size w W) ⟨(Rw.new _ _ _).alloc _, ?_, ((Below.refl _ _).alloc (Nat.le_refl _) _).alloc (by simp) _⟩ ?_
  · have h1 := Rw.new (w.alloc (.cells cs 25)) vs 27
    rw [size_alloc] at h1
    exact h1
  rintro u0 ⟨h0, h1, h2⟩
  have R_A_0 := Lib.hid h0
  have R_B_0 := Lib.hid h1
  have BT0 := Lib.hid h2
  clear h0 h1 h2
  go_wp2_with fail
  refine (HAW.out _).mono ?_
  rintro e u1 ⟨rfl, hb⟩
  have R_A_1 := Lib.hid (R_A_0.out.under hb R_A_0.out.lt)
  have R_B_1 := Lib.hid (R_B_0.out.under hb R_B_0.out.lt)
  have BT1 := Lib.hid (BT0.out.trans (hb.mono BT0.out.size))
  clear hb BT0 R_A_0 R_B_0
  go_wp2_with (first | (refine wpList_load_any (by rfl) 25 (.tmp 3) rfl w.heap.size rfl 25 cs (0, 0) _ R_A_1.out Try.underlying25 rfl (by rw [HZ_cs.out]; exact i12) ?_))
  refine (HMR.out _).mono ?_
  rintro e u2 ⟨rfl, hb⟩
  have R_A_2 := Lib.hid (R_A_1.out.under hb R_A_1.out.lt)
  have R_B_2 := Lib.hid (R_B_1.out.under hb R_B_1.out.lt)
  have BT2 := Lib.hid (BT1.out.trans (hb.mono BT1.out.size))
  clear hb BT1 R_A_1 R_B_1
  clear HMR
  go_wp2_with (first | (refine wpList_load_any (by rfl) 25 (.tmp 3) rfl w.heap.size rfl 25 cs (0, 0) _ R_A_2.out Try.underlying25 rfl (by rw [HZ_cs.out]; exact i12) ?_) | (refine wpList_load_any (by rfl) 27 (.tmp 4) rfl (w.heap.size + 1) rfl 27 vs (0, 0) _ R_B_2.out Try.underlying27 rfl (by rw [HZ_vs.out]; exact iv4) ?_))
  refine (HC0.out _).mono ?_
  rintro e u3 ⟨rfl, hb⟩
  have R_A_3 := Lib.hid (R_A_2.out.under hb R_A_2.out.lt)
  have R_B_3 := Lib.hid (R_B_2.out.under hb R_B_2.out.lt)
  have BT3 := Lib.hid (BT2.out.trans (hb.mono BT2.out.size))
  clear hb BT2 R_A_2 R_B_2
  clear HC0 HAW
  go_upto_region 4 with (first | (refine wpList_plain rfl fun _ hK => wp_store_row 31 (.tmp 8) (.tmp 26) rfl u3.heap.size rx rfl rfl 31 _ (Rw.new u3 _ 31) (by rw [HZ_rx.out]; exact i19) (by rw [HZ_rx.out]; rfl) (H1_rx.out) (hK _ _ ?_); clear hK))
  obtain ⟨Q, hY⟩ : ∃ X, X = u3.heap.size := ⟨_, rfl⟩
  rw [← hY]
  refine name_w (fun W => Rw W w.heap.size cs 25 ∧ Rw W (w.heap.size + 1) vs 27 ∧ Rw W Q rx 31 ∧ Below w.heap.size w W) ?_ ?_
  · have bb := below_setRow ((Below.refl u3.heap.size u3).alloc (Nat.le_refl _) (.cells (recC (rcK 0 0)) 31)) (Nat.le_refl _) (b := u3.heap.size) rx
    rw [hY]
    exact ⟨R_A_3.out.under bb R_A_3.out.lt, R_B_3.out.under bb R_B_3.out.lt, (Rw.new u3 _ 31).set rx, BT3.out.trans (bb.mono BT3.out.size)⟩
  clear hY BT3 R_A_3 R_B_3
  rintro u4 ⟨h0, h1, h2, h3⟩
  have R_A_4 := Lib.hid h0
  have R_B_4 := Lib.hid h1
  have R_Q_4 := Lib.hid h2
  have BT4 := Lib.hid h3
  clear h0 h1 h2 h3
  have m1 : u4.cell? ⟨w.heap.size, 1, none⟩ = some (.int .i64 1) := by rw [R_A_4.out.cell 1, HE_cs.out]; rfl
  have k0 : u4.cell? ⟨w.heap.size, 10, none⟩ = some (.int .i64 sw) := by rw [R_A_4.out.cell 10, HE_cs.out]; rfl
  rw [HSW.out] at k0
  go_wp2_with (first | (refine wpList_load_any (by rfl) 31 (.tmp 8) rfl Q rfl 31 rx (0, 0) _ R_Q_4.out Try.underlying31 rfl (by rw [HZ_rx.out]; exact i19) ?_))
  go_ret
  exact ⟨rfl, BT4.out⟩
set_option maxRecDepth 100000 in
set_option maxHeartbeats 8000000 in
theorem scal1 (hp : PkgPl) (ph r0 r1 w0 w1 dl gn sw fl now : Int) (p0 p1 : Bool) (v : Vw) (w : World) (hs : FitsS ⟨ph, 1, r0, r1, w0, w1, p0, p1, dl, gn, sw, fl⟩) (hv : FitsV v) (hn : Fits now) (hrt : rightS ⟨ph, 1, r0, r1, w0, w1, p0, p1, dl, gn, sw, fl⟩ = true) (hx : nextS ⟨ph, 1, r0, r1, w0, w1, p0, p1, dl, gn, sw, fl⟩ v now = (6, rcK 10 0)) (hst : stepS ⟨ph, 1, r0, r1, w0, w1, p0, p1, dl, gn, sw, fl⟩ (rcK 10 0) = (blankS ⟨ph, 1, r0, r1, w0, w1, p0, p1, dl, gn, sw, fl⟩, true)) (hc : ph = 7 ∨ (ph = 5 ∧ fl ≤ now ∧ dl ≤ now - fl) ∨ (ph = 5 ∧ ¬ fl ≤ now ∧ dl = 0)) (hb : 0 ≤ fl ∧ fl ≤ 1073741824) : Calls Try.prog 5 #[stV ⟨ph, 1, r0, r1, w0, w1, p0, p1, dl, gn, sw, fl⟩, vwV v, .int .i64 now] w (Holds w) := by
  have HWR : Hid (fl ≤ now → 0 ≤ fl ∧ fl ≤ 1073741824 → RowKit.wrap64 (now - fl) = now - fl) := Lib.hid (fun h1 h2 => wrap_small (by unfold Fits at hn; omega))
  have HAW : Hid (∀ W, Calls Try.prog 9 #[] W fun e w' => e = .returned (.bool true) ∧ Below W.heap.size W w') := Lib.hid (awake_any hp)
  have HMR : Hid (∀ W, Calls Try.prog 10 #[.agg (stC ⟨ph, 1, r0, r1, w0, w1, p0, p1, dl, gn, sw, fl⟩)] W fun e w' => e = .returned (.bool true) ∧ Below W.heap.size W w') := Lib.hid (fun W => by rw [← hrt]; exact mright_any ⟨ph, 1, r0, r1, w0, w1, p0, p1, dl, gn, sw, fl⟩ W)
  have HC0 : Hid (∀ W, Calls Try.prog 11 #[.agg (stC ⟨ph, 1, r0, r1, w0, w1, p0, p1, dl, gn, sw, fl⟩), .agg (vwC v), .int .i64 now] W fun e w' => e = .returned (.tuple #[.int .i64 6, .agg (recC (rcK 10 0))]) ∧ Below W.heap.size W w') := Lib.hid (fun W => by have h := hp.next ⟨ph, 1, r0, r1, w0, w1, p0, p1, dl, gn, sw, fl⟩ v now W hrt hv hn; rw [hx] at h; exact h)
  have HST : Hid (∀ W, Calls Try.prog 15 #[.agg (stC ⟨ph, 1, r0, r1, w0, w1, p0, p1, dl, gn, sw, fl⟩), .agg (recC (rcK 10 0))] W fun e w' => e = .returned (.tuple #[.agg (stC (blankS ⟨ph, 1, r0, r1, w0, w1, p0, p1, dl, gn, sw, fl⟩)), .bool true]) ∧ Below W.heap.size W w') := Lib.hid (fun W => by have h := step_any ⟨ph, 1, r0, r1, w0, w1, p0, p1, dl, gn, sw, fl⟩ (rcK 10 0) W (fits_rcK (by decide) (by decide)).kind; rw [hst] at h; exact h)
  obtain ⟨cs, hcs⟩ : ∃ c, c = stC ⟨ph, 1, r0, r1, w0, w1, p0, p1, dl, gn, sw, fl⟩ := ⟨_, rfl⟩
  have HE_cs := Lib.hid hcs
  have HZ_cs : Hid (cs.size = 12) := Lib.hid (by rw [hcs]; rfl)
  have H1_cs : Hid (cs.all (·.oneCell') = true) := Lib.hid (by rw [hcs]; exact stC_one _)
  obtain ⟨vs, hvs⟩ : ∃ c, c = vwC v := ⟨_, rfl⟩
  have HE_vs := Lib.hid hvs
  have HZ_vs : Hid (vs.size = 4) := Lib.hid (by rw [hvs]; rfl)
  have H1_vs : Hid (vs.all (·.oneCell') = true) := Lib.hid (by rw [hvs]; exact vwC_one _)
  obtain ⟨rx, hrx⟩ : ∃ c, c = recC (rcK 10 0) := ⟨_, rfl⟩
  have HE_rx := Lib.hid hrx
  have HZ_rx : Hid (rx.size = 19) := Lib.hid (by rw [hrx]; rfl)
  have H1_rx : Hid (rx.all (·.oneCell') = true) := Lib.hid (by rw [hrx]; exact recC_one _)
  obtain ⟨xc, hxc⟩ : ∃ c, c = stC (blankS ⟨ph, 1, r0, r1, w0, w1, p0, p1, dl, gn, sw, fl⟩) := ⟨_, rfl⟩
  have HE_xc := Lib.hid hxc
  have HZ_xc : Hid (xc.size = 12) := Lib.hid (by rw [hxc]; rfl)
  have H1_xc : Hid (xc.all (·.oneCell') = true) := Lib.hid (by rw [hxc]; exact stC_one _)
  rw [← hcs] at HMR HC0 HST
  rw [← hvs] at HC0
  rw [← hrx] at HC0 HST
  rw [← hxc] at HST
  unfold stV vwV
  rw [← hcs, ← hvs]
  clear hcs hvs hrx hp hrt hx hv hn hs hxc hst
  go_enter Try.func5, Try.ntmps5
  go_upto_region 1 with (fail)
  refine name_w (fun W => Rw W w.heap.size cs 25 ∧ Rw W (w.heap.size + 1) vs 27 ∧ Below w.heap.size w W) ⟨(Rw.new _ _ _).alloc _, ?_, ((Below.refl _ _).alloc (Nat.le_refl _) _).alloc (by simp) _⟩ ?_
  · have h1 := Rw.new (w.alloc (.cells cs 25)) vs 27
    rw [size_alloc] at h1
    exact h1
  rintro u0 ⟨h0, h1, h2⟩
  have R_A_0 := Lib.hid h0
  have R_B_0 := Lib.hid h1
  have BT0 := Lib.hid h2
  clear h0 h1 h2
  go_wp2_with fail
  refine (HAW.out _).mono ?_
  rintro e u1 ⟨rfl, hb⟩
  have R_A_1 := Lib.hid (R_A_0.out.under hb R_A_0.out.lt)
  have R_B_1 := Lib.hid (R_B_0.out.under hb R_B_0.out.lt)
  have BT1 := Lib.hid (BT0.out.trans (hb.mono BT0.out.size))
  clear hb BT0 R_A_0 R_B_0
  go_wp2_with (first | (refine wpList_load_any (by rfl) 25 (.tmp 3) rfl w.heap.size rfl 25 cs (0, 0) _ R_A_1.out Try.underlying25 rfl (by rw [HZ_cs.out]; exact i12) ?_))
  refine (HMR.out _).mono ?_
  rintro e u2 ⟨rfl, hb⟩
  have R_A_2 := Lib.hid (R_A_1.out.under hb R_A_1.out.lt)
  have R_B_2 := Lib.hid (R_B_1.out.under hb R_B_1.out.lt)
  have BT2 := Lib.hid (BT1.out.trans (hb.mono BT1.out.size))
  clear hb BT1 R_A_1 R_B_1
  clear HMR
  go_wp2_with (first | (refine wpList_load_any (by rfl) 25 (.tmp 3) rfl w.heap.size rfl 25 cs (0, 0) _ R_A_2.out Try.underlying25 rfl (by rw [HZ_cs.out]; exact i12) ?_) | (refine wpList_load_any (by rfl) 27 (.tmp 4) rfl (w.heap.size + 1) rfl 27 vs (0, 0) _ R_B_2.out Try.underlying27 rfl (by rw [HZ_vs.out]; exact iv4) ?_))
  refine (HC0.out _).mono ?_
  rintro e u3 ⟨rfl, hb⟩
  have R_A_3 := Lib.hid (R_A_2.out.under hb R_A_2.out.lt)
  have R_B_3 := Lib.hid (R_B_2.out.under hb R_B_2.out.lt)
  have BT3 := Lib.hid (BT2.out.trans (hb.mono BT2.out.size))
  clear hb BT2 R_A_2 R_B_2
  clear HC0 HAW
  go_upto_region 4 with (first | (refine wpList_plain rfl fun _ hK => wp_store_row 31 (.tmp 8) (.tmp 26) rfl u3.heap.size rx rfl rfl 31 _ (Rw.new u3 _ 31) (by rw [HZ_rx.out]; exact i19) (by rw [HZ_rx.out]; rfl) (H1_rx.out) (hK _ _ ?_); clear hK))
  obtain ⟨Q, hY⟩ : ∃ X, X = u3.heap.size := ⟨_, rfl⟩
  rw [← hY]
  refine name_w (fun W => Rw W w.heap.size cs 25 ∧ Rw W (w.heap.size + 1) vs 27 ∧ Rw W Q rx 31 ∧ Below w.heap.size w W) ?_ ?_
  · have bb := below_setRow ((Below.refl u3.heap.size u3).alloc (Nat.le_refl _) (.cells (recC (rcK 0 0)) 31)) (Nat.le_refl _) (b := u3.heap.size) rx
    rw [hY]
    exact ⟨R_A_3.out.under bb R_A_3.out.lt, R_B_3.out.under bb R_B_3.out.lt, (Rw.new u3 _ 31).set rx, BT3.out.trans (bb.mono BT3.out.size)⟩
  clear hY BT3 R_A_3 R_B_3
  rintro u4 ⟨h0, h1, h2, h3⟩
  have R_A_4 := Lib.hid h0
  have R_B_4 := Lib.hid h1
  have R_Q_4 := Lib.hid h2
  have BT4 := Lib.hid h3
  clear h0 h1 h2 h3
  have m1 : u4.cell? ⟨w.heap.size, 1, none⟩ = some (.int .i64 1) := by rw [R_A_4.out.cell 1, HE_cs.out]; rfl
  go_wp2_with (first | (refine wpList_load_any (by rfl) 25 (.tmp 3) rfl w.heap.size rfl 25 cs (0, 0) _ R_A_4.out Try.underlying25 rfl (by rw [HZ_cs.out]; exact i12) ?_) | (refine wpList_load_any (by rfl) 31 (.tmp 8) rfl Q rfl 31 rx (0, 0) _ R_Q_4.out Try.underlying31 rfl (by rw [HZ_rx.out]; exact i19) ?_))
  refine (HST.out _).mono ?_
  rintro e u5 ⟨rfl, hb⟩
  have R_A_5 := Lib.hid (R_A_4.out.under hb R_A_4.out.lt)
  have R_B_5 := Lib.hid (R_B_4.out.under hb R_B_4.out.lt)
  have R_Q_5 := Lib.hid (R_Q_4.out.under hb R_Q_4.out.lt)
  have BT5 := Lib.hid (BT4.out.trans (hb.mono BT4.out.size))
  clear hb BT4 R_A_4 R_B_4 R_Q_4
  clear HST m1
  go_upto_region 12 with (first | (refine wpList_plain rfl fun _ hK => wp_store_row 25 (.tmp 10) (.tmp 60) rfl u5.heap.size xc rfl rfl 25 _ (Rw.new u5 _ 25) (by rw [HZ_xc.out]; exact i12) (by rw [HZ_xc.out]; rfl) (H1_xc.out) (hK _ _ ?_); clear hK))
  obtain ⟨X, hY⟩ : ∃ X, X = u5.heap.size := ⟨_, rfl⟩
  rw [← hY]
  refine name_w (fun W => Rw W w.heap.size cs 25 ∧ Rw W (w.heap.size + 1) vs 27 ∧ Rw W Q rx 31 ∧ Rw W X xc 25 ∧ Below w.heap.size w W) ?_ ?_
  · have bb := below_setRow ((Below.refl u5.heap.size u5).alloc (Nat.le_refl _) (.cells (stC zeroS) 25)) (Nat.le_refl _) (b := u5.heap.size) xc
    rw [hY]
    exact ⟨R_A_5.out.under bb R_A_5.out.lt, R_B_5.out.under bb R_B_5.out.lt, R_Q_5.out.under bb R_Q_5.out.lt, (Rw.new u5 _ 25).set xc, BT5.out.trans (bb.mono BT5.out.size)⟩
  clear hY BT5 R_A_5 R_B_5 R_Q_5
  rintro u6 ⟨h0, h1, h2, h3, h4⟩
  have R_A_6 := Lib.hid h0
  have R_B_6 := Lib.hid h1
  have R_Q_6 := Lib.hid h2
  have R_X_6 := Lib.hid h3
  have BT6 := Lib.hid h4
  clear h0 h1 h2 h3 h4
  have a0 : u6.cell? ⟨w.heap.size, 0, none⟩ = some (.int .i64 ph) := by rw [R_A_6.out.cell 0, HE_cs.out]; rfl
  have a1 : u6.cell? ⟨w.heap.size, 1, none⟩ = some (.int .i64 1) := by rw [R_A_6.out.cell 1, HE_cs.out]; rfl
  have a4 : u6.cell? ⟨w.heap.size, 4, none⟩ = some (.int .i64 w0) := by rw [R_A_6.out.cell 4, HE_cs.out]; rfl
  have a5 : u6.cell? ⟨w.heap.size, 5, none⟩ = some (.int .i64 w1) := by rw [R_A_6.out.cell 5, HE_cs.out]; rfl
  have a8 : u6.cell? ⟨w.heap.size, 8, none⟩ = some (.int .i64 dl) := by rw [R_A_6.out.cell 8, HE_cs.out]; rfl
  have a11 : u6.cell? ⟨w.heap.size, 11, none⟩ = some (.int .i64 fl) := by rw [R_A_6.out.cell 11, HE_cs.out]; rfl
  have x4 : u6.cell? ⟨X, 4, none⟩ = some (.int .i64 0) := by rw [R_X_6.out.cell 4, HE_xc.out]; rfl
  have x5 : u6.cell? ⟨X, 5, none⟩ = some (.int .i64 w1) := by rw [R_X_6.out.cell 5, HE_xc.out]; rfl
  rcases hc with rfl | ⟨rfl, hge, hle⟩ | ⟨rfl, hge, rfl⟩
  · clear hb
    go_quiet (fail)
    go_wp2
    go_ret
    exact ⟨rfl, BT6.out.trans ((below_drewM _ _).mono BT6.out.size)⟩
  · have e1 : decide (fl ≤ now) = true := decide_eq_true hge
    have e2 : RowKit.wrap64 (now - fl) = now - fl := HWR.out hge hb
    have e3 : decide (dl ≤ now - fl) = true := decide_eq_true hle
    clear hge hle hb
    go_quiet (fail)
    go_wp2
    go_ret
    exact ⟨rfl, BT6.out.trans ((below_drewM _ _).mono BT6.out.size)⟩
  · have e1 : decide (fl ≤ now) = false := decide_eq_false (by omega)
    clear hge hb
    go_quiet (fail)
    go_wp2
    go_ret
    exact ⟨rfl, BT6.out.trans ((below_drewM _ _).mono BT6.out.size)⟩
set_option maxRecDepth 100000 in
set_option maxHeartbeats 8000000 in
theorem outside (hp : PkgPl) (s : St) (v : Vw) (now : Int) (w : World) (hr : rightS s = false) : Calls Try.prog 5 #[stV s, vwV v, .int .i64 now] w (Holds w) := by
  have HAW : Hid (∀ W, Calls Try.prog 9 #[] W fun e w' => e = .returned (.bool true) ∧ Below W.heap.size W w') := Lib.hid (awake_any hp)
  have HMR : Hid (∀ W, Calls Try.prog 10 #[.agg (stC s)] W fun e w' => e = .returned (.bool false) ∧ Below W.heap.size W w') := Lib.hid (fun W => by rw [← hr]; exact mright_any s W)
  obtain ⟨cs, hcs⟩ : ∃ c, c = stC s := ⟨_, rfl⟩
  have HE_cs := Lib.hid hcs
  have HZ_cs : Hid (cs.size = 12) := Lib.hid (by rw [hcs]; rfl)
  have H1_cs : Hid (cs.all (·.oneCell') = true) := Lib.hid (by rw [hcs]; exact stC_one _)
  obtain ⟨vs, hvs⟩ : ∃ c, c = vwC v := ⟨_, rfl⟩
  have HE_vs := Lib.hid hvs
  have HZ_vs : Hid (vs.size = 4) := Lib.hid (by rw [hvs]; rfl)
  have H1_vs : Hid (vs.all (·.oneCell') = true) := Lib.hid (by rw [hvs]; exact vwC_one _)
  rw [← hcs] at HMR
  unfold stV vwV
  rw [← hcs, ← hvs]
  clear hcs hvs hp hr
  go_enter Try.func5, Try.ntmps5
  go_upto_region 1 with (fail)
  refine name_w (fun W => Rw W w.heap.size cs 25 ∧ Rw W (w.heap.size + 1) vs 27 ∧ Below w.heap.size w W) ⟨(Rw.new _ _ _).alloc _, ?_, ((Below.refl _ _).alloc (Nat.le_refl _) _).alloc (by simp) _⟩ ?_
  · have h1 := Rw.new (w.alloc (.cells cs 25)) vs 27
    rw [size_alloc] at h1
    exact h1
  rintro u0 ⟨h0, h1, h2⟩
  have R_A_0 := Lib.hid h0
  have R_B_0 := Lib.hid h1
  have BT0 := Lib.hid h2
  clear h0 h1 h2
  go_wp2_with fail
  refine (HAW.out _).mono ?_
  rintro e u1 ⟨rfl, hb⟩
  have R_A_1 := Lib.hid (R_A_0.out.under hb R_A_0.out.lt)
  have R_B_1 := Lib.hid (R_B_0.out.under hb R_B_0.out.lt)
  have BT1 := Lib.hid (BT0.out.trans (hb.mono BT0.out.size))
  clear hb BT0 R_A_0 R_B_0
  go_wp2_with (first | (refine wpList_load_any (by rfl) 25 (.tmp 3) rfl w.heap.size rfl 25 cs (0, 0) _ R_A_1.out Try.underlying25 rfl (by rw [HZ_cs.out]; exact i12) ?_))
  refine (HMR.out _).mono ?_
  rintro e u2 ⟨rfl, hb⟩
  have R_A_2 := Lib.hid (R_A_1.out.under hb R_A_1.out.lt)
  have R_B_2 := Lib.hid (R_B_1.out.under hb R_B_1.out.lt)
  have BT2 := Lib.hid (BT1.out.trans (hb.mono BT1.out.size))
  clear hb BT1 R_A_1 R_B_1
  clear HMR
  go_wp2_with fail
  refine (HAW.out _).mono ?_
  rintro e u3 ⟨rfl, hb⟩
  have R_A_3 := Lib.hid (R_A_2.out.under hb R_A_2.out.lt)
  have R_B_3 := Lib.hid (R_B_2.out.under hb R_B_2.out.lt)
  have BT3 := Lib.hid (BT2.out.trans (hb.mono BT2.out.size))
  clear hb BT2 R_A_2 R_B_2
  go_wp2_with fail
  go_ret
  exact ⟨rfl, BT3.out⟩
theorem walk (hp : PkgPl) (s : St) (v : Vw) (now : Int) (w : World) (hs : FitsS s) (hv : FitsV v) (hn : Fits now) : Calls Try.prog 5 #[stV s, vwV v, .int .i64 now] w (Holds w) := by
  cases h : rightS s with
  | false => exact outside hp s v now w h
  | true =>
    have hi := right_in h
    have hb := fl_in h
    have hx := safe_x v now h
    obtain ⟨ph, ac, r0, r1, w0, w1, p0, p1, dl, gn, sw, fl⟩ := s
    have hcond : (ph = 7 ∨ ph = 5 ∧ dl ≤ lessI now fl) → ph = 7 ∨ (ph = 5 ∧ fl ≤ now ∧ dl ≤ now - fl) ∨ (ph = 5 ∧ ¬ fl ≤ now ∧ dl = 0) := by
      intro hc
      have hb2 : 0 ≤ dl ∧ _ := hb.2
      have hb1 : 0 ≤ fl ∧ fl ≤ 1073741824 := hb.1
      rcases hc with hc | ⟨h1, h2⟩
      · exact .inl hc
      · unfold lessI at h2
        split at h2
        · by_cases hq : fl ≤ now
          · exact .inr (.inl ⟨h1, hq, by omega⟩)
          · exact .inr (.inr ⟨h1, hq, by omega⟩)
        · exact .inr (.inl ⟨h1, by omega, by omega⟩)
    have hsc : (ph = 7 ∨ ph = 5 ∧ dl ≤ lessI now fl) → stepS ⟨ph, ac, r0, r1, w0, w1, p0, p1, dl, gn, sw, fl⟩ (rcK 10 0) = (blankS ⟨ph, ac, r0, r1, w0, w1, p0, p1, dl, gn, sw, fl⟩, true) := by
      intro hc
      unfold stepS
      simp only [rcK]
      rw [if_neg (by rw [h]; decide)]
      show (step10 _) = _
      exact pick_yes _ _ (by show ph = 5 ∨ ph = 7; omega)
    rcases hi.1 with ha | ha
    · obtain rfl : ac = 0 := ha
      rcases hx with ⟨e⟩ | ⟨hf, e⟩ | ⟨hf, hpo, e⟩ | ⟨hf, hpo, e⟩ | ⟨e⟩ | ⟨hsw, e⟩ | ⟨hc, e⟩
      · exact wait0 hp ph r0 r1 w0 w1 dl gn sw fl now p0 p1 v w hs hv hn h e
      · exact warm0 hp ph r0 r1 w0 w1 dl gn sw fl now p0 p1 v w hs hv hn h e hf
      · exact prep0 hp ph r0 r1 w0 w1 dl gn sw fl now p0 p1 v w hs hv hn h e hf hpo
      · exact comm0 hp ph r0 r1 w0 w1 dl gn sw fl now p0 p1 v w hs hv hn h e hf hpo
      · exact canc0 hp ph r0 r1 w0 w1 dl gn sw fl now p0 p1 v w hs hv hn h e
      · exact rout0 hp ph r0 r1 w0 w1 dl gn sw fl now p0 p1 v w hs hv hn h e hsw
      · exact scal0 hp ph r0 r1 w0 w1 dl gn sw fl now p0 p1 v w hs hv hn h e (hsc hc) (hcond hc) hb.1
    · obtain rfl : ac = 1 := ha
      rcases hx with ⟨e⟩ | ⟨hf, e⟩ | ⟨hf, hpo, e⟩ | ⟨hf, hpo, e⟩ | ⟨e⟩ | ⟨hsw, e⟩ | ⟨hc, e⟩
      · exact wait1 hp ph r0 r1 w0 w1 dl gn sw fl now p0 p1 v w hs hv hn h e
      · exact warm1 hp ph r0 r1 w0 w1 dl gn sw fl now p0 p1 v w hs hv hn h e hf
      · exact prep1 hp ph r0 r1 w0 w1 dl gn sw fl now p0 p1 v w hs hv hn h e hf hpo
      · exact comm1 hp ph r0 r1 w0 w1 dl gn sw fl now p0 p1 v w hs hv hn h e hf hpo
      · exact canc1 hp ph r0 r1 w0 w1 dl gn sw fl now p0 p1 v w hs hv hn h e
      · exact rout1 hp ph r0 r1 w0 w1 dl gn sw fl now p0 p1 v w hs hv hn h e hsw
      · exact scal1 hp ph r0 r1 w0 w1 dl gn sw fl now p0 p1 v w hs hv hn h e (hsc hc) (hcond hc) hb.1
end Go.Proofs.Ytmodacieflcheaa.planSafe
