/-
  switchback's FleetPlays: whatever the list of acts, the package's fleet and the document's own answer alike, and behind each act both views and both slots' full are alike. For every input the law returns true, and each argument reads afterwards as it read before. No condition beside the row's own.
-/
import Derived.Test.YthgcpijokdbmhaaFleT
import Derived.Deep.LoopGhost
import Derived.Deep.Cut
import Derived.Deep.RegionHeld3
import Derived.Deep.QuietTactic
import Derived.BigQuiet
namespace Go.Proofs.Ythgcpijokdbmhaa.fleetPlays
open Go.Proofs.Ythgcpijokdbmhaa
open Go.ChangeShapes Go.WideShapes Go.ChangeAt Go.RowKit
set_option linter.unusedVariables false

set_option maxRecDepth 100000 in
set_option maxHeartbeats 4000000 in
theorem out_len {F : FleetIn} (hp : PkgF F) (A : Option Addr) (c0 : Nat) (ask : Int) (xs : List Ac) (w : World) (h : 300 < xs.length) : Calls Try.prog 3 #[.slice A xs.length c0, .int .i64 ask] w (Holds w) := by
  have HK := Lib.hid hp
  have n3 : decide (300 < (xs.length : Int)) = true := by simp; omega
  have n4 : decide (300 < xs.length) = true := by simp; omega
  clear hp h
  go_enter Try.func3, Try.ntmps3
  go_wp2_with fail
  refine (two_new HK.out w).mono ?_
  rintro e w1 ⟨b, rfl, h⟩
  have H1 := Lib.hid h
  clear h
  go_wp2_with fail
  refine (two_newm HK.out.ks H1.out).mono ?_
  rintro e w2 ⟨c, rfl, h⟩
  have H2 := Lib.hid h
  clear h H1
  go_wp2_with fail
  refine (awake_any HK.out _).mono ?_
  rintro e w3 ⟨rfl, hb⟩
  have H3 := Lib.hid (H2.out.keep HK.out.ks flm_keeps hb).1
  clear hb H2
  go_wp2_with fail
  refine (awake_any HK.out _).mono ?_
  rintro e w4 ⟨rfl, hb⟩
  have H4 := Lib.hid (H3.out.keep HK.out.ks flm_keeps hb).1
  clear hb
  go_wp2
  go_ret
  exact ⟨rfl, H4.out.low⟩
set_option maxRecDepth 100000 in
set_option maxHeartbeats 4000000 in
theorem inside {F : FleetIn} (hp : PkgF F) (A0 : Option Addr) (c0 : Nat) (ask : Int) (xs : List Ac) (w : World) (hx : ActsI w (.slice A0 xs.length c0) xs) (h : xs.length ≤ 300) : Calls Try.prog 3 #[.slice A0 xs.length c0, .int .i64 ask] w (Holds w) := by
  have HK := Lib.hid hp
  have HI := Lib.hid hx
  have HLO := Lib.hid h
  have n3 : decide (300 < (xs.length : Int)) = false := by simp; omega
  have n4 : decide (300 < xs.length) = false := by simp; omega
  clear hp hx h
  go_enter Try.func3, Try.ntmps3
  go_wp2_with fail
  refine (two_new HK.out w).mono ?_
  rintro e w1 ⟨b, rfl, h⟩
  have H1 := Lib.hid h
  clear h
  go_wp2_with fail
  refine (two_newm HK.out.ks H1.out).mono ?_
  rintro e w2 ⟨c, rfl, h⟩
  have H2 := Lib.hid h
  clear h H1
  go_wp2_with fail
  refine (awake_any HK.out _).mono ?_
  rintro e w3 ⟨rfl, hb⟩
  have H3 := Lib.hid (H2.out.keep HK.out.ks flm_keeps hb).1
  clear hb H2
  go_wp2
  clear n3 n4
  go_loopg [25] xs.length (fun gg iv wr => ∃ (k : Nat) (y z : List Bool), Hid (gg = xs.length - k) ∧ k ≤ xs.length ∧ iv = .int .i64 (k : Int) ∧ Hid (Two F FlM w wr [] b y z c y z))
  case atStart => exact ⟨0, [], [], Lib.hid rfl, Nat.zero_le _, rfl, H3⟩
  case round =>
    obtain ⟨k, y, z, HGG, hk, rfl, HB⟩ := hrel
    clear H3
    have hk9 : k ≤ 300 := by have := HLO.out; omega
    by_cases hlt : k < xs.length
    case neg =>
      have el : decide ((k : Int) < (xs.length : Int)) = false := by simpa using hlt
      have en : decide (k < xs.length) = false := decide_eq_false hlt
      clear hlt
      go_wp2
      go_ret
      exact ⟨rfl, HB.out.low⟩
    have el : decide ((k : Int) < (xs.length : Int)) = true := by simpa using hlt
    have en : decide (k < xs.length) = true := decide_eq_true hlt
    obtain ⟨B, off, rfl, hL⟩ := HI.out.kth HB.out.low hlt
    obtain ⟨⟨kd, sl, nm, on, p, q⟩, hA⟩ : ∃ A, A = xs[k] := ⟨_, rfl⟩
    rw [← hA] at hL
    obtain ⟨x0, x1, x2, x3, x4, x5⟩ := hL
    simp only at x0 x1 x2 x3 x4 x5
    have HLT := Lib.hid hlt
    clear hA hlt
    go_upto_region 7 with (fail)
    obtain ⟨A, hAb⟩ : ∃ X, X = wr.heap.size := ⟨_, rfl⟩
    rw [← hAb]
    refine name_w (fun W => TA F FlM w W A b y z c y z kd sl nm on p q) ?_ ?_
    · rw [hAb]
      exact TA.begin HK.out.ks flm_keeps HB.out
    clear hAb HB x0 x1 x2 x3 x4 x5
    rintro w4 h
    have m0 := h.act.c0
    have H4 := Lib.hid h
    clear h
    by_cases c1 : kd = 1
    case pos =>
      subst c1
      have m4 := H4.out.act.c4
      have m5 := H4.out.act.c5
      go_wp2_with fail
      refine (ta_apply HK.out flm_keeps p q H4.out).mono ?_
      rintro e w5 ⟨rfl, h⟩
      have H5 := Lib.hid h
      clear h H4
      clear m0 m4 m5
      have m4 := H5.out.act.c4
      have m5 := H5.out.act.c5
      go_wp2_with fail
      refine (tam_apply HK.out.ks p q H5.out).mono ?_
      rintro e w6 ⟨rfl, h⟩
      have H6 := Lib.hid h
      clear h H5
      clear m4 m5
      obtain ⟨n1, n2, n3, n4, hv⟩ : ∃ n1 n2 n3 n4 : Int, viewK (scaleL y p) (scaleL z q) = .agg #[.int .i64 n1, .int .i64 n2, .int .i64 n3, .int .i64 n4] := ⟨_, _, _, _, rfl⟩
      have HV := Lib.hid hv
      clear hv
      obtain ⟨f1, hf1⟩ : ∃ x, x = fullL (slotK ask (scaleL y p) (scaleL z q)) := ⟨_, rfl⟩
      obtain ⟨f2, hf2⟩ : ∃ x, x = fullL (slotK 0 (scaleL y p) (scaleL z q)) := ⟨_, rfl⟩
      have HF := Lib.hid (And.intro hf1 hf2)
      clear hf1 hf2
      have q37 := eq37
      go_wp2_with fail
      refine (ta_view HK.out flm_keeps H6.out).mono ?_
      rw [HV.out]
      rintro e w7 ⟨rfl, h⟩
      have H7 := Lib.hid h
      clear h H6
      go_wp2_with fail
      refine (tam_view HK.out.ks H7.out).mono ?_
      rw [HV.out]
      rintro e w8 ⟨rfl, h⟩
      have H8 := Lib.hid h
      clear h H7
      go_wp2_with fail
      refine (ta_full HK.out flm_keeps ask H8.out).mono ?_
      rw [← HF.out.1]
      rintro e w9 ⟨rfl, h⟩
      have H9 := Lib.hid h
      clear h H8
      go_wp2_with fail
      refine (tam_slot HK.out.ks ask H9.out).mono ?_
      rintro e w10 ⟨x10, rfl, h⟩
      have H10 := Lib.hid h
      clear h H9
      go_wp2_with fail
      refine (tam_full HK.out.ks H10.out).mono ?_
      rw [← HF.out.1]
      rintro e w11 ⟨rfl, h⟩
      have H11 := Lib.hid h
      clear h H10
      go_wp2_with fail
      refine (ta_full HK.out flm_keeps 0 H11.out).mono ?_
      rw [← HF.out.2]
      rintro e w12 ⟨rfl, h⟩
      have H12 := Lib.hid h
      clear h H11
      go_wp2_with fail
      refine (tam_slot HK.out.ks 0 H12.out).mono ?_
      rintro e w13 ⟨x13, rfl, h⟩
      have H13 := Lib.hid h
      clear h H12
      go_wp2_with fail
      refine (tam_full HK.out.ks H13.out).mono ?_
      rw [← HF.out.2]
      rintro e w14 ⟨rfl, h⟩
      have H14 := Lib.hid h
      clear h H13
      clear q37
      have HX := Lib.hid H14.out.free
      clear H14
      go_wp2
      go_roundg (xs.length - (k + 1))
      case measure => have := HGG.out; have := HLT.out; omega
      case rel => exact ⟨k + 1, _, _, Lib.hid rfl, HLT.out, by go_num, HX⟩
    by_cases c2 : kd = 2
    case pos =>
      subst c2
      obtain ⟨d, hd⟩ : ∃ x, x = decide (isW (slotK sl y z) nm) := ⟨_, rfl⟩
      have HD := Lib.hid hd
      clear hd
      go_upto_region 12 with (fail)
      have y1 := (H4.out.drew HK.out.ks flm_keeps).cs
      go_region_held3 (fun wx => wx.cell? ⟨A, 1, none⟩ = some (.int .i64 sl) ∧ wx.cell? ⟨A, 2, none⟩ = some (.int .i64 nm) ∧ wx.cell? ⟨A, 3, none⟩ = some (.bool on)) (first | exact y4 | exact y3 | exact y2 | exact y1) (first | (go_at_call 12; refine (ta_ready HK.out flm_keeps sl nm on (H4.out.drew HK.out.ks flm_keeps)).mono ?_; rw [← HD.out]; rintro e w5 ⟨rfl, h5⟩; have y2 := h5.cs) | (go_at_call 13; refine (tam_slot HK.out.ks sl h5).mono ?_; rintro e w6 ⟨x6, rfl, h6⟩; have y3 := h6.cs) | (go_at_call 14; refine (tam_ready HK.out.ks nm on h6).mono ?_; rw [← HD.out]; rintro e w7 ⟨rfl, h7⟩; have y4 := h7.cs))
      rename_i hh
      clear hh
      have H7 := Lib.hid h7
      clear h5 h6 h7 y1 y2 y3 y4 H4 m0
      obtain ⟨n1, n2, n3, n4, hv⟩ : ∃ n1 n2 n3 n4 : Int, viewK (rdA y sl nm on) (rdB z sl nm on) = .agg #[.int .i64 n1, .int .i64 n2, .int .i64 n3, .int .i64 n4] := ⟨_, _, _, _, rfl⟩
      have HV := Lib.hid hv
      clear hv
      obtain ⟨f1, hf1⟩ : ∃ x, x = fullL (slotK ask (rdA y sl nm on) (rdB z sl nm on)) := ⟨_, rfl⟩
      obtain ⟨f2, hf2⟩ : ∃ x, x = fullL (slotK 0 (rdA y sl nm on) (rdB z sl nm on)) := ⟨_, rfl⟩
      have HF := Lib.hid (And.intro hf1 hf2)
      clear hf1 hf2
      have q37 := eq37
      go_wp2_with fail
      refine (ta_view HK.out flm_keeps H7.out).mono ?_
      rw [HV.out]
      rintro e w8 ⟨rfl, h⟩
      have H8 := Lib.hid h
      clear h H7
      go_wp2_with fail
      refine (tam_view HK.out.ks H8.out).mono ?_
      rw [HV.out]
      rintro e w9 ⟨rfl, h⟩
      have H9 := Lib.hid h
      clear h H8
      go_wp2_with fail
      refine (ta_full HK.out flm_keeps ask H9.out).mono ?_
      rw [← HF.out.1]
      rintro e w10 ⟨rfl, h⟩
      have H10 := Lib.hid h
      clear h H9
      go_wp2_with fail
      refine (tam_slot HK.out.ks ask H10.out).mono ?_
      rintro e w11 ⟨x11, rfl, h⟩
      have H11 := Lib.hid h
      clear h H10
      go_wp2_with fail
      refine (tam_full HK.out.ks H11.out).mono ?_
      rw [← HF.out.1]
      rintro e w12 ⟨rfl, h⟩
      have H12 := Lib.hid h
      clear h H11
      go_wp2_with fail
      refine (ta_full HK.out flm_keeps 0 H12.out).mono ?_
      rw [← HF.out.2]
      rintro e w13 ⟨rfl, h⟩
      have H13 := Lib.hid h
      clear h H12
      go_wp2_with fail
      refine (tam_slot HK.out.ks 0 H13.out).mono ?_
      rintro e w14 ⟨x14, rfl, h⟩
      have H14 := Lib.hid h
      clear h H13
      go_wp2_with fail
      refine (tam_full HK.out.ks H14.out).mono ?_
      rw [← HF.out.2]
      rintro e w15 ⟨rfl, h⟩
      have H15 := Lib.hid h
      clear h H14
      clear q37
      have HX := Lib.hid H15.out.free
      clear H15
      go_wp2
      go_roundg (xs.length - (k + 1))
      case measure => have := HGG.out; have := HLT.out; omega
      case rel => exact ⟨k + 1, _, _, Lib.hid rfl, HLT.out, by go_num, HX⟩
    by_cases c3 : kd = 3
    case pos =>
      subst c3
      go_wp2_with fail
      refine (ta_fill HK.out flm_keeps H4.out).mono ?_
      rintro e w5 ⟨rfl, h⟩
      have H5 := Lib.hid h
      clear h H4
      clear m0
      go_wp2_with fail
      refine (tam_fill HK.out.ks H5.out).mono ?_
      rintro e w6 ⟨rfl, h⟩
      have H6 := Lib.hid h
      clear h H5
      obtain ⟨n1, n2, n3, n4, hv⟩ : ∃ n1 n2 n3 n4 : Int, viewK (fillL y) (fillL z) = .agg #[.int .i64 n1, .int .i64 n2, .int .i64 n3, .int .i64 n4] := ⟨_, _, _, _, rfl⟩
      have HV := Lib.hid hv
      clear hv
      obtain ⟨f1, hf1⟩ : ∃ x, x = fullL (slotK ask (fillL y) (fillL z)) := ⟨_, rfl⟩
      obtain ⟨f2, hf2⟩ : ∃ x, x = fullL (slotK 0 (fillL y) (fillL z)) := ⟨_, rfl⟩
      have HF := Lib.hid (And.intro hf1 hf2)
      clear hf1 hf2
      have q37 := eq37
      go_wp2_with fail
      refine (ta_view HK.out flm_keeps H6.out).mono ?_
      rw [HV.out]
      rintro e w7 ⟨rfl, h⟩
      have H7 := Lib.hid h
      clear h H6
      go_wp2_with fail
      refine (tam_view HK.out.ks H7.out).mono ?_
      rw [HV.out]
      rintro e w8 ⟨rfl, h⟩
      have H8 := Lib.hid h
      clear h H7
      go_wp2_with fail
      refine (ta_full HK.out flm_keeps ask H8.out).mono ?_
      rw [← HF.out.1]
      rintro e w9 ⟨rfl, h⟩
      have H9 := Lib.hid h
      clear h H8
      go_wp2_with fail
      refine (tam_slot HK.out.ks ask H9.out).mono ?_
      rintro e w10 ⟨x10, rfl, h⟩
      have H10 := Lib.hid h
      clear h H9
      go_wp2_with fail
      refine (tam_full HK.out.ks H10.out).mono ?_
      rw [← HF.out.1]
      rintro e w11 ⟨rfl, h⟩
      have H11 := Lib.hid h
      clear h H10
      go_wp2_with fail
      refine (ta_full HK.out flm_keeps 0 H11.out).mono ?_
      rw [← HF.out.2]
      rintro e w12 ⟨rfl, h⟩
      have H12 := Lib.hid h
      clear h H11
      go_wp2_with fail
      refine (tam_slot HK.out.ks 0 H12.out).mono ?_
      rintro e w13 ⟨x13, rfl, h⟩
      have H13 := Lib.hid h
      clear h H12
      go_wp2_with fail
      refine (tam_full HK.out.ks H13.out).mono ?_
      rw [← HF.out.2]
      rintro e w14 ⟨rfl, h⟩
      have H14 := Lib.hid h
      clear h H13
      clear q37
      have HX := Lib.hid H14.out.free
      clear H14
      go_wp2
      go_roundg (xs.length - (k + 1))
      case measure => have := HGG.out; have := HLT.out; omega
      case rel => exact ⟨k + 1, _, _, Lib.hid rfl, HLT.out, by go_num, HX⟩
    have g1 : (kd == 1) = false := beq_eq_false_iff_ne.2 c1
    have g2 : (kd == 2) = false := beq_eq_false_iff_ne.2 c2
    have g3 : (kd == 3) = false := beq_eq_false_iff_ne.2 c3
    clear c1 c2 c3
    obtain ⟨n1, n2, n3, n4, hv⟩ : ∃ n1 n2 n3 n4 : Int, viewK y z = .agg #[.int .i64 n1, .int .i64 n2, .int .i64 n3, .int .i64 n4] := ⟨_, _, _, _, rfl⟩
    have HV := Lib.hid hv
    clear hv
    obtain ⟨f1, hf1⟩ : ∃ x, x = fullL (slotK ask y z) := ⟨_, rfl⟩
    obtain ⟨f2, hf2⟩ : ∃ x, x = fullL (slotK 0 y z) := ⟨_, rfl⟩
    have HF := Lib.hid (And.intro hf1 hf2)
    clear hf1 hf2
    have q37 := eq37
    go_wp2_with fail
    refine (ta_view HK.out flm_keeps H4.out).mono ?_
    rw [HV.out]
    rintro e w5 ⟨rfl, h⟩
    have H5 := Lib.hid h
    clear h H4
    go_wp2_with fail
    refine (tam_view HK.out.ks H5.out).mono ?_
    rw [HV.out]
    rintro e w6 ⟨rfl, h⟩
    have H6 := Lib.hid h
    clear h H5
    go_wp2_with fail
    refine (ta_full HK.out flm_keeps ask H6.out).mono ?_
    rw [← HF.out.1]
    rintro e w7 ⟨rfl, h⟩
    have H7 := Lib.hid h
    clear h H6
    go_wp2_with fail
    refine (tam_slot HK.out.ks ask H7.out).mono ?_
    rintro e w8 ⟨x8, rfl, h⟩
    have H8 := Lib.hid h
    clear h H7
    go_wp2_with fail
    refine (tam_full HK.out.ks H8.out).mono ?_
    rw [← HF.out.1]
    rintro e w9 ⟨rfl, h⟩
    have H9 := Lib.hid h
    clear h H8
    go_wp2_with fail
    refine (ta_full HK.out flm_keeps 0 H9.out).mono ?_
    rw [← HF.out.2]
    rintro e w10 ⟨rfl, h⟩
    have H10 := Lib.hid h
    clear h H9
    go_wp2_with fail
    refine (tam_slot HK.out.ks 0 H10.out).mono ?_
    rintro e w11 ⟨x11, rfl, h⟩
    have H11 := Lib.hid h
    clear h H10
    go_wp2_with fail
    refine (tam_full HK.out.ks H11.out).mono ?_
    rw [← HF.out.2]
    rintro e w12 ⟨rfl, h⟩
    have H12 := Lib.hid h
    clear h H11
    clear q37
    have HX := Lib.hid H12.out.free
    clear H12
    go_wp2
    go_roundg (xs.length - (k + 1))
    case measure => have := HGG.out; have := HLT.out; omega
    case rel => exact ⟨k + 1, _, _, Lib.hid rfl, HLT.out, by go_num, HX⟩
theorem walk {F : FleetIn} (hp : PkgF F) (v : Value) (ask : Int) (xs : List Ac) (w : World) (hx : ActsI w v xs) : Calls Try.prog 3 #[v, .int .i64 ask] w (Holds w) := by
  obtain ⟨A, c, rfl⟩ := hx.shape
  by_cases h : xs.length ≤ 300
  · exact inside hp A c ask xs w hx h
  · exact out_len hp A c ask xs w (by omega)
end Go.Proofs.Ythgcpijokdbmhaa.fleetPlays
