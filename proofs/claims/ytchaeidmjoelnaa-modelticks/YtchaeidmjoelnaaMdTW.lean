/-
  switchback's ModelTicks: ticks change nothing of a model but the tick, which never falls, nor goes beyond its end; there no rollout begins. For every input the law returns true, and each argument reads afterwards as it read before. No condition beside the row's own.
-/
import Derived.Test.YtchaeidmjoelnaaMdK
import Derived.Deep.LoopGhost
import Derived.Deep.Cut
import Derived.Deep.RegionHeld3
import Derived.Deep.QuietTactic
import Derived.BigQuiet
namespace Go.Proofs.Ytchaeidmjoelnaa.modelTicks
open Go.Proofs.Ytchaeidmjoelnaa
open Go.ChangeShapes Go.WideShapes Go.ChangeAt Go.RowKit
set_option linter.unusedVariables false

set_option maxRecDepth 100000 in
set_option maxHeartbeats 8000000 in
theorem walk {F : ObIn Md} (hp : PkgMd F) (v tv : Value) (xs : List Am) (ts : List Int) (w : World) (hx : ActsI w v xs) (ht : IntsI w tv ts) (hf : ∀ t ∈ ts, Fits t) : Calls Try.prog 8 #[v, tv] w (Holds w) := by
  obtain ⟨T0, e0, rfl⟩ := IntsI.shape ht
  have HT := Lib.hid ht
  have HTF := Lib.hid hf
  clear ht hf
  by_cases hl : 100 < ts.length
  case pos =>
    have l1 : decide ((100 : Int) < (ts.length : Int)) = true := by simp; omega
    have l2 : decide (100 < ts.length) = true := decide_eq_true hl
    clear hl
    obtain ⟨A0, c0, rfl⟩ := hx.shape
    have HP := Lib.hid hp
    have HX := Lib.hid hx
    have HAW : Hid (∀ W, Calls Try.prog 9 #[] W fun e w' => e = .returned (.bool true) ∧ Below W.heap.size W w') := Lib.hid (awake_any hp)
    obtain ⟨gr, hgr⟩ : ∃ b, b = greatB xs := ⟨_, rfl⟩
    have HGR : Hid (∀ W, Below w.heap.size w W → Calls Try.prog 10 #[.slice A0 xs.length c0] W fun e w' => e = .returned (.bool gr) ∧ Below W.heap.size W w') := Lib.hid (fun W hb => by rw [hgr]; exact great_any _ _ _ (hx.under hb))
    have HG := Lib.hid hgr
    obtain ⟨m0, hm0⟩ : ∃ m, m = newM (firstS 1 2) 3 := ⟨_, rfl⟩
    have N0 : Hid (MdN 0 m0) := Lib.hid (by rw [hm0]; exact mdn_new rs12)
    have HNW : Hid (Calls Try.prog 11 #[.int .i64 1, .int .i64 2, .int .i64 3] w fun e w' => ∃ b, e = .returned (.tuple #[ptr b, .int .i64 0]) ∧ NewO F w w' b m0) := Lib.hid (by rw [hm0]; exact new_yes hp w rs12 (fin _ (by omega)) (fin _ (by omega)) (fin _ (by omega)))
    clear hp hx hgr hm0
    go_enter Try.func8, Try.ntmps8
    go_wp2_with fail
    refine HNW.out.mono ?_
    rintro e u1 ⟨b, rfl, h⟩
    have H1 : Hid (One F w u1 [] b m0) := Lib.hid (h.one (Below.refl _ _))
    clear h HNW
    go_wp2_with fail
    refine (H1.out.aside HP.out.ks (HAW.out _)).mono ?_
    rintro e u2 ⟨rfl, h⟩
    have H2 := Lib.hid h
    clear h H1
    go_wp2_with fail
    refine (H2.out.aside HP.out.ks (HGR.out _ H2.out.low)).mono ?_
    rintro e u3 ⟨rfl, h⟩
    have H3 := Lib.hid h
    clear h H2
    cases gr with
    | true =>
      go_wp2_with fail
      refine (H3.out.aside HP.out.ks (HAW.out _)).mono ?_
      rintro e u4 ⟨rfl, h⟩
      have H4 := Lib.hid h.low
      clear h H3
      go_wp2
      go_ret
      exact ⟨rfl, H4.out⟩
    | false =>
    have HGN := Lib.hid (great_no HG.out.symm)
    go_wp2_with fail
    refine (H3.out.aside HP.out.ks (HAW.out _)).mono ?_
    rintro e u4 ⟨rfl, h⟩
    have H4 := Lib.hid h.low
    clear h H3
    go_wp2
    go_ret
    exact ⟨rfl, H4.out⟩
  have l1 : decide ((100 : Int) < (ts.length : Int)) = false := by simp; omega
  have l2 : decide (100 < ts.length) = false := decide_eq_false hl
  have HTL : Hid (¬ 100 < ts.length) := Lib.hid hl
  clear hl
  obtain ⟨A0, c0, rfl⟩ := hx.shape
  have HP := Lib.hid hp
  have HX := Lib.hid hx
  have HAW : Hid (∀ W, Calls Try.prog 9 #[] W fun e w' => e = .returned (.bool true) ∧ Below W.heap.size W w') := Lib.hid (awake_any hp)
  obtain ⟨gr, hgr⟩ : ∃ b, b = greatB xs := ⟨_, rfl⟩
  have HGR : Hid (∀ W, Below w.heap.size w W → Calls Try.prog 10 #[.slice A0 xs.length c0] W fun e w' => e = .returned (.bool gr) ∧ Below W.heap.size W w') := Lib.hid (fun W hb => by rw [hgr]; exact great_any _ _ _ (hx.under hb))
  have HG := Lib.hid hgr
  obtain ⟨m0, hm0⟩ : ∃ m, m = newM (firstS 1 2) 3 := ⟨_, rfl⟩
  have N0 : Hid (MdN 0 m0) := Lib.hid (by rw [hm0]; exact mdn_new rs12)
  have HNW : Hid (Calls Try.prog 11 #[.int .i64 1, .int .i64 2, .int .i64 3] w fun e w' => ∃ b, e = .returned (.tuple #[ptr b, .int .i64 0]) ∧ NewO F w w' b m0) := Lib.hid (by rw [hm0]; exact new_yes hp w rs12 (fin _ (by omega)) (fin _ (by omega)) (fin _ (by omega)))
  clear hp hx hgr hm0
  go_enter Try.func8, Try.ntmps8
  go_wp2_with fail
  refine HNW.out.mono ?_
  rintro e u1 ⟨b, rfl, h⟩
  have H1 : Hid (One F w u1 [] b m0) := Lib.hid (h.one (Below.refl _ _))
  clear h HNW
  go_wp2_with fail
  refine (H1.out.aside HP.out.ks (HAW.out _)).mono ?_
  rintro e u2 ⟨rfl, h⟩
  have H2 := Lib.hid h
  clear h H1
  go_wp2_with fail
  refine (H2.out.aside HP.out.ks (HGR.out _ H2.out.low)).mono ?_
  rintro e u3 ⟨rfl, h⟩
  have H3 := Lib.hid h
  clear h H2
  cases gr with
  | true =>
    go_wp2_with fail
    refine (H3.out.aside HP.out.ks (HAW.out _)).mono ?_
    rintro e u4 ⟨rfl, h⟩
    have H4 := Lib.hid h.low
    clear h H3
    go_wp2
    go_ret
    exact ⟨rfl, H4.out⟩
  | false =>
  have HGN := Lib.hid (great_no HG.out.symm)
  clear HAW HGR HG
  go_wp2
  go_loopg [36] xs.length (fun m' iv wr => ∃ k : Nat, Hid (m' = xs.length - k) ∧ k ≤ xs.length ∧ iv = .int .i64 (k : Int) ∧ Hid (One F w wr [] b (actsM m0 (xs.take k))))
  case atStart => exact ⟨0, Lib.hid rfl, Nat.zero_le _, rfl, H3⟩
  case round =>
    obtain ⟨k, HGh, hk, rfl, HO⟩ := hrel
    clear H3
    by_cases hlt : k < xs.length
    case neg =>
      have d1 : decide ((k : Int) < (xs.length : Int)) = false := by simp; omega
      have d2 : decide (k < xs.length) = false := decide_eq_false hlt
      obtain rfl : k = xs.length := by omega
      rw [List.take_length] at HO
      clear hk hlt HGh
      obtain ⟨m, hm⟩ : ∃ m, m = actsM m0 xs := ⟨_, rfl⟩
      rw [← hm] at HO
      have HM : Hid (MdN 800 m) := Lib.hid (by rw [hm]; exact mdn_all N0.out HGN.out)
      clear hm d1 d2 l1 l2
      go_wp2
      go_loopg [46] ts.length (fun m' iv wr => ∃ k : Nat, Hid (m' = ts.length - k) ∧ k ≤ ts.length ∧ iv = .int .i64 (k : Int) ∧ Hid (∃ m1, One F w wr [] b m1 ∧ MdN 800 m1))
      case atStart => exact ⟨0, Lib.hid rfl, Nat.zero_le _, rfl, Lib.hid ⟨m, HO.out, HM.out⟩⟩
      case round =>
        obtain ⟨k, HGh, hk, rfl, HX2⟩ := hrel
        clear HO HM
        obtain ⟨m1, h1, h2⟩ := HX2.out
        have HO := Lib.hid h1
        have HM := Lib.hid h2
        clear h1 h2 HX2
        have hk100 : k ≤ 100 := by have := HTL.out; omega
        by_cases hlt : k < ts.length
        case pos =>
          have HK := Lib.hid hlt
          have d1 : decide ((k : Int) < (ts.length : Int)) = true := by simp; omega
          have d2 : decide (k < ts.length) = true := decide_eq_true hlt
          obtain ⟨n, hn⟩ : ∃ n, n = ts[k] := ⟨_, rfl⟩
          obtain ⟨bb, oo, hA, x0⟩ := HT.out.kthI HO.out.low hlt
          subst hA
          have x1 : wr.cell? ⟨bb, oo + k, none⟩ = some (.int .i64 n) := by rw [hn]; exact x0
          have HFN : Hid (Fits n) := Lib.hid (by rw [hn]; exact HTF.out _ (List.getElem_mem hlt))
          clear x0 hn hlt
          obtain ⟨rw0, hrw0⟩ : ∃ c, c = repC m1 := ⟨_, rfl⟩
          have HE_rw0 := Lib.hid hrw0
          have HZ_rw0 : Hid (rw0.size = 21) := Lib.hid (by rw [hrw0]; rfl)
          have H1_rw0 : Hid (rw0.all (·.oneCell') = true) := Lib.hid (by rw [hrw0]; exact repC_one _)
          have HQ : Hid (Calls Try.prog 12 #[ptr b] wr fun e w' => e = .returned (.agg rw0) ∧ One F w w' [] b m1) := Lib.hid (by rw [hrw0]; exact one_reply HP.out HO.out HM.out)
          clear hrw0
          go_wp2_with fail
          refine HQ.out.mono ?_
          rintro e v11 ⟨rfl, h⟩
          have HV11 := Lib.hid h
          clear h HQ HO
          go_upto_region 13 with (first | (refine wpList_plain rfl fun _ hK => wp_store_row 44 (.tmp 11) (.tmp 51) rfl v11.heap.size rw0 rfl rfl 44 _ (Rw.new v11 _ 44) (by rw [HZ_rw0.out]; exact i21) (by rw [HZ_rw0.out]; rfl) H1_rw0.out (hK _ _ ?_); clear hK))
          obtain ⟨XW, hX⟩ : ∃ X, X = v11.heap.size := ⟨_, rfl⟩
          rw [← hX]
          refine name_w (fun V => One F w V [(XW, rw0, 44)] b m1) (by rw [hX]; exact (HV11.out.alloc HP.out.ks _ 44).setRow HP.out.ks rw0) ?_
          clear hX HV11
          rintro v12 h
          have HV12 := Lib.hid h
          clear h
          have HMT : Hid (MdN 800 (tickM m1 n)) := Lib.hid (HM.out.tick n)
          go_wp2_with fail
          refine (one_tick HP.out HV12.out HM.out n HFN.out).mono ?_
          rintro e v13 ⟨rfl, h⟩
          have HV13 : Hid (One F w v13 [(XW, rw0, 44)] b (tickM m1 n)) := Lib.hid h
          clear h HV12
          obtain ⟨rn0, hrn0⟩ : ∃ c, c = repC (tickM m1 n) := ⟨_, rfl⟩
          have HE_rn0 := Lib.hid hrn0
          have HZ_rn0 : Hid (rn0.size = 21) := Lib.hid (by rw [hrn0]; rfl)
          have H1_rn0 : Hid (rn0.all (·.oneCell') = true) := Lib.hid (by rw [hrn0]; exact repC_one _)
          have HQ : Hid (Calls Try.prog 12 #[ptr b] v13 fun e w' => e = .returned (.agg rn0) ∧ One F w w' [(XW, rw0, 44)] b (tickM m1 n)) := Lib.hid (by rw [hrn0]; exact one_reply HP.out HV13.out HMT.out)
          clear hrn0
          go_wp2_with fail
          refine HQ.out.mono ?_
          rintro e v14 ⟨rfl, h⟩
          have HV14 := Lib.hid h
          clear h HQ HV13
          go_upto_region 15 with (first | (refine wpList_plain rfl fun _ hK => wp_store_row 44 (.tmp 12) (.tmp 56) rfl v14.heap.size rn0 rfl rfl 44 _ (Rw.new v14 _ 44) (by rw [HZ_rn0.out]; exact i21) (by rw [HZ_rn0.out]; rfl) H1_rn0.out (hK _ _ ?_); clear hK))
          obtain ⟨XN, hX⟩ : ∃ X, X = v14.heap.size := ⟨_, rfl⟩
          rw [← hX]
          refine name_w (fun V => One F w V [(XN, rn0, 44), (XW, rw0, 44)] b (tickM m1 n)) (by rw [hX]; exact (HV14.out.alloc HP.out.ks _ 44).setRow HP.out.ks rn0) ?_
          clear hX HV14
          rintro v15 h
          have HV15 := Lib.hid h
          clear h
          obtain ⟨t0, ht0⟩ : ∃ t, t = m1.tick := ⟨_, rfl⟩
          obtain ⟨t1, ht1⟩ : ∃ t, t = (tickM m1 n).tick := ⟨_, rfl⟩
          have HI1 := HM.out.inv.tick
          have had := add_in (b := n) HI1
          have e1 : t1 = addI t0 n 1073741824 := by rw [ht0, ht1]; rfl
          rw [← ht0] at HI1 had
          rw [← e1] at had
          clear e1
          have y0 : v15.cell? ⟨XW, 20, none⟩ = some (.int .i64 t0) := by rw [HV15.out.row2.cell, HE_rw0.out]; rw [ht0]; rfl
          have y1 : v15.cell? ⟨XN, 20, none⟩ = some (.int .i64 t1) := by rw [HV15.out.row1.cell, HE_rn0.out]; rw [ht1]; rfl
          have fz := HV15.out.row1.fr 20
          have g1 : decide (t1 < t0) = false := decide_eq_false (by omega)
          have g2 : decide (1073741824 < t1) = false := decide_eq_false (by omega)
          obtain ⟨dd, hdd⟩ : ∃ d, d = t1 - t0 := ⟨_, rfl⟩
          obtain ⟨ee, hee⟩ : ∃ d, d = 1073741824 - t0 := ⟨_, rfl⟩
          have g3 : wrap64 (t1 - t0) = dd := by rw [hdd]; unfold wrap64; omega
          have g4 : wrap64 (1073741824 - t0) = ee := by rw [hee]; unfold wrap64; omega
          rw [← hdd, ← hee] at had
          have hmx : dd = min (max n 0) ee := had.2.2
          clear had HI1 hee hdd ht1
          have HT0 := Lib.hid ht0
          clear ht0
          by_cases hn0 : n < 0
          case pos =>
            have q0 : (if n < 0 then (0 : Int) else n) = 0 := if_pos hn0
            have q1 : (if ee < 0 then ee else 0) = dd := by split <;> omega
            clear hmx hn0
            go_upto_region 18 with (fail)
            clear q0 q1 fz
            refine name_w (fun V => One F w V [(XN, rw0, 44), (XW, rw0, 44)] b (tickM m1 n)) (by
              have h := HV15.out.setCell HP.out.ks 20 (.int .i64 t0)
              rw [HT0.out, HE_rn0.out, rep_tick, ← HE_rw0.out, ← HT0.out] at h
              exact h) ?_
            rintro v30 h
            have HV30 := Lib.hid h
            clear h HV15 y0 y1 g1 g2 g3 g4
            have hq : ∀ w, (Op.equalIn 10000 44 (.agg rw0) (.agg rw0)).run Try.prog w = .ok true w := by rw [HE_rw0.out]; exact eq44 HM.out.inv.fits
            go_wp2_with (first | (refine wpList_load_any (by rfl) 44 (.tmp 12) rfl XN rfl 44 rw0 (0, 0) _ HV30.out.row1 Try.underlying44 rfl (by rw [HZ_rw0.out]; exact i21) ?_) | (refine wpList_load_any (by rfl) 44 (.tmp 11) rfl XW rfl 44 rw0 (0, 0) _ HV30.out.row2 Try.underlying44 rfl (by rw [HZ_rw0.out]; exact i21) ?_))
            go_roundg (ts.length - (k + 1))
            case measure => have := HGh.out; have := HK.out; omega
            case rel => exact ⟨k + 1, Lib.hid rfl, HK.out, by go_num, Lib.hid ⟨tickM m1 n, HV30.out.nil, HMT.out⟩⟩
          case neg =>
            have q0 : (if n < 0 then (0 : Int) else n) = n := if_neg hn0
            have q1 : (if ee < n then ee else n) = dd := by split <;> omega
            clear hmx hn0
            go_upto_region 18 with (fail)
            clear q0 q1 fz
            refine name_w (fun V => One F w V [(XN, rw0, 44), (XW, rw0, 44)] b (tickM m1 n)) (by
              have h := HV15.out.setCell HP.out.ks 20 (.int .i64 t0)
              rw [HT0.out, HE_rn0.out, rep_tick, ← HE_rw0.out, ← HT0.out] at h
              exact h) ?_
            rintro v30 h
            have HV30 := Lib.hid h
            clear h HV15 y0 y1 g1 g2 g3 g4
            have hq : ∀ w, (Op.equalIn 10000 44 (.agg rw0) (.agg rw0)).run Try.prog w = .ok true w := by rw [HE_rw0.out]; exact eq44 HM.out.inv.fits
            go_wp2_with (first | (refine wpList_load_any (by rfl) 44 (.tmp 12) rfl XN rfl 44 rw0 (0, 0) _ HV30.out.row1 Try.underlying44 rfl (by rw [HZ_rw0.out]; exact i21) ?_) | (refine wpList_load_any (by rfl) 44 (.tmp 11) rfl XW rfl 44 rw0 (0, 0) _ HV30.out.row2 Try.underlying44 rfl (by rw [HZ_rw0.out]; exact i21) ?_))
            go_roundg (ts.length - (k + 1))
            case measure => have := HGh.out; have := HK.out; omega
            case rel => exact ⟨k + 1, Lib.hid rfl, HK.out, by go_num, Lib.hid ⟨tickM m1 n, HV30.out.nil, HMT.out⟩⟩
        case neg =>
          have d1 : decide ((k : Int) < (ts.length : Int)) = false := by simp; omega
          have d2 : decide (k < ts.length) = false := decide_eq_false hlt
          clear hlt hk HGh
          obtain ⟨r, hr⟩ : ∃ r, r = (opM m1 ⟨1, 9, 1, 0, false⟩).2 := ⟨_, rfl⟩
          obtain ⟨m2, hm2⟩ : ∃ x, x = (opM m1 ⟨1, 9, 1, 0, false⟩).1 := ⟨_, rfl⟩
          have HR := Lib.hid hr
          have HM2 : Hid (MdN 800 m2) := Lib.hid (by rw [hm2]; exact HM.out.op _)
          have HTK : Hid (m2.tick = m1.tick) := Lib.hid (by rw [hm2]; exact op_tick _ _)
          have HOP := Lib.hid (one_op HP.out HO.out HM.out ⟨1, 9, 1, 0, false⟩ (fo _ _ _ _ _ (by omega)))
          rw [← hr, ← hm2] at HOP
          clear hr hm2
          go_wp2_with fail
          refine HOP.out.mono ?_
          rintro e v1 ⟨rfl, h⟩
          have HV1 := Lib.hid h
          clear h HOP HO
          obtain ⟨t2, ht2⟩ : ∃ t, t = m2.tick := ⟨_, rfl⟩
          obtain ⟨rs, hrs⟩ : ∃ c, c = repC m2 := ⟨_, rfl⟩
          have hfld := field44 (cs := rs) (t := t2) (by rw [hrs, ht2]; rfl)
          have HRP : Hid (Calls Try.prog 12 #[ptr b] v1 fun e w' => e = .returned (.agg rs) ∧ One F w w' [] b m2) := Lib.hid (by rw [hrs]; exact one_reply HP.out HV1.out HM2.out)
          have HT2 := Lib.hid ht2
          clear hrs ht2
          go_wp2_with fail
          refine HRP.out.mono ?_
          rintro e v2 ⟨rfl, h⟩
          have HV2 := Lib.hid h.low
          clear h HRP HV1
          by_cases ho : t2 < 1073741824
          case pos =>
            have g1 : decide (t2 < 1073741824) = true := decide_eq_true ho
            clear ho
            go_wp2
            go_ret
            exact ⟨rfl, HV2.out⟩
          have g1 : decide (t2 < 1073741824) = false := decide_eq_false ho
          obtain rfl : r = 9 := by rw [HR.out, tick_over (by have := HTK.out; have := HT2.out; omega) 9 1 0 (by omega)]
          clear ho
          go_wp2
          go_ret
          exact ⟨rfl, HV2.out⟩
    case pos =>
      have HK := Lib.hid hlt
      have hk80 : k < 80 := by have := HGN.out.1; omega
      have d1 : decide ((k : Int) < (xs.length : Int)) = true := by simp; omega
      have d2 : decide (k < xs.length) = true := decide_eq_true hlt
      obtain ⟨m, hm⟩ : ∃ m, m = actsM m0 (xs.take k) := ⟨_, rfl⟩
      rw [← hm] at HO
      have HM : Hid (MdN 800 m) := Lib.hid (by rw [hm]; exact mdn_take N0.out HGN.out k hk)
      obtain ⟨bb, oo, u, hA, hrg, hui, hfa⟩ := HX.out.kth0 HO.out.low hlt
      subst hA
      obtain ⟨a, ha⟩ : ∃ a, a = xs[k] := ⟨_, rfl⟩
      have HUI : Hid (IntsI w u a.outs) := Lib.hid (by rw [ha]; exact hui)
      have HFA : Hid (FitsA a) := Lib.hid (by rw [ha]; exact hfa)
      have HAO : Hid (a.outs.length ≤ 50) := Lib.hid (by rw [ha]; exact HGN.out.2 xs[k] (List.getElem_mem hlt))
      have HA := Lib.hid ha
      obtain ⟨cs, hcs⟩ : ∃ c, c = amC a u := ⟨_, rfl⟩
      have HRG : Hid (wr.rangeAt bb (oo + k * 10) cs.toList) := Lib.hid (by rw [hcs, ha]; exact hrg)
      have HZC : Hid (cs.size = 10) := Lib.hid (by rw [hcs]; rfl)
      have H1C : Hid (cs.all (·.oneCell') = true) := Lib.hid (by
        obtain ⟨A', c', hu⟩ := IntsI.shape hui
        rw [hcs, hu]
        exact amC_one _ _ _ _)
      have HCS := Lib.hid hcs
      have HDO : Hid (∀ L V, One F w V L b m → Calls Try.prog 13 #[ptr b, .agg cs] V fun e w' => e = .returned (.int .i64 (actM m a).2) ∧ One F w w' L b (actM m a).1) := Lib.hid (fun L V h => by rw [hcs]; exact do_any HP.out a u h HM.out (by decide) (HUI.out.under h.low (Nat.le_refl _)) HFA.out (Nat.le_trans HAO.out (by decide)))
      have HNX : Hid (actsM m0 (xs.take (k + 1)) = (actM m a).1) := Lib.hid (by rw [hm, ha]; exact acts_take m0 xs k hlt)
      clear hm hrg hui hfa ha hcs hlt
      go_upto_region 7 with (first | (refine load_mid (by rfl) 34 (.tmp 38) rfl bb (oo + k * 10) rfl cs _ HRG.out Try.underlying34 rfl (by rw [HZC.out]; exact i10) ?_) | (refine wpList_plain rfl fun _ hK => wp_store_row 34 (.tmp 8) (.tmp 39) rfl wr.heap.size cs rfl rfl 34 _ (Rw.new wr _ 34) (by rw [HZC.out]; exact i10) (by rw [HZC.out]; rfl) H1C.out (hK _ _ ?_); clear hK))
      obtain ⟨XA, hX⟩ : ∃ X, X = wr.heap.size := ⟨_, rfl⟩
      rw [← hX]
      refine name_w (fun V => One F w V [(XA, cs, 34)] b m) (by rw [hX]; exact (HO.out.alloc HP.out.ks _ 34).setRow HP.out.ks cs) ?_
      clear hX HO HRG
      rintro v0 h
      have HV0 := Lib.hid h
      clear h
      obtain ⟨m1, hm1⟩ : ∃ x, x = (actM m a).1 := ⟨_, rfl⟩
      obtain ⟨r1, hr1⟩ : ∃ x, x = (actM m a).2 := ⟨_, rfl⟩
      have HM1 : Hid (MdN 810 m1) := Lib.hid (by rw [hm1]; exact HM.out.act a (Nat.le_trans HAO.out (by decide)))
      have HD1 := Lib.hid (HDO.out _ _ HV0.out)
      rw [← hm1, ← hr1] at HD1
      have Hm1 := Lib.hid hm1
      have Hr1 := Lib.hid hr1
      clear hm1 hr1 HDO
      go_wp2_with (first | (refine wpList_load_any (by rfl) 34 (.tmp 8) rfl XA rfl 34 cs (0, 0) _ HV0.out.row1 Try.underlying34 rfl (by rw [HZC.out]; exact i10) ?_))
      refine HD1.out.mono ?_
      rintro e v1 ⟨rfl, h⟩
      have HV1 := Lib.hid h
      clear h HD1 HV0
      go_wp2
      go_roundg (xs.length - (k + 1))
      case measure => have := HGh.out; have := HK.out; omega
      case rel => exact ⟨k + 1, Lib.hid rfl, HK.out, by go_num, Lib.hid (by rw [HNX.out, ← Hm1.out]; exact HV1.out.nil)⟩
end Go.Proofs.Ytchaeidmjoelnaa.modelTicks
