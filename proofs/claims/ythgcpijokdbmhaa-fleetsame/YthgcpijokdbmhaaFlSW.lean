/-
  switchback's FleetSame: Apply again of the same numbers leaves the view as it is, whatever was made ready; behind Fill as many are ready as are wanted, and a slot is full just if one at least is. For every input the law returns true, and each argument reads afterwards as it read before. No condition beside the row's own.
-/
import Derived.Test.YthgcpijokdbmhaaFleT
import Derived.Deep.LoopGhost
import Derived.Deep.Cut
import Derived.Deep.RegionHeld3
import Derived.Deep.QuietTactic
import Derived.BigQuiet
namespace Go.Proofs.Ythgcpijokdbmhaa.fleetSame
open Go.Proofs.Ythgcpijokdbmhaa
open Go.ChangeShapes Go.WideShapes Go.ChangeAt Go.RowKit
set_option linter.unusedVariables false

theorem Row4.all {W : World} {A : Nat} {p q r s : Int} (h : Row4 W A p q r s) : W.cell? ⟨A, 0, none⟩ = some (.int .i64 p) ∧ W.cell? ⟨A, 1, none⟩ = some (.int .i64 q) ∧ W.cell? ⟨A, 2, none⟩ = some (.int .i64 r) ∧ W.cell? ⟨A, 3, none⟩ = some (.int .i64 s) := ⟨h.c0, h.c1, h.c2, h.c3⟩
theorem scale_same {l : List Bool} {n : Int} (h : l.length = clampN n) : scaleL l n = l := by
  unfold scaleL padL
  rw [← h, List.take_length, Nat.sub_self]
  simp
theorem full_fill (l : List Bool) : fullL (fillL l) = decide (0 < (l.length : Int)) := by
  unfold fullL
  rw [fillL_cnt, fillL_len]
  simp
theorem box_low {w W : World} {A : Nat} {p q : Int} (h : Box2 w A p q) (hb : Below w.heap.size w W) : Box2 W A p q := (hb.block A (lt_of_block h)).trans h
theorem full_s {F : FleetIn} (hp : PkgF F) {w W : World} {X : List Nat} {b : Nat} {k l : List Bool} {s : Int} {f : Bool} (h : Two F NoF w W X b k l 0 [] []) (hf : fullL (slotK s k l) = f) : Calls Try.prog 19 #[.pointer (some ⟨b, 0, none⟩), .int .i64 s] W fun e w' => e = .returned (.bool f) ∧ Two F NoF w w' X b k l 0 [] [] ∧ SameX X W w' := by
  rw [← hf]
  exact two_full hp nof_keeps s h
set_option maxRecDepth 100000 in
set_option maxHeartbeats 4000000 in
theorem out_len {F : FleetIn} (hp : PkgF F) (A : Option Addr) (c0 : Nat) (p0 q0 : Int) (xs : List Ac) (w : World) (h : 300 < xs.length) : Calls Try.prog 5 #[.slice A xs.length c0, .agg #[.int .i64 p0, .int .i64 q0]] w (Holds w) := by
  have HK := Lib.hid hp
  have n3 : decide (300 < (xs.length : Int)) = true := by simp; omega
  have n4 : decide (300 < xs.length) = true := by simp; omega
  clear hp h
  go_enter Try.func5, Try.ntmps5
  go_upto_region 1 with (fail)
  obtain ⟨Bx, hBx⟩ : ∃ X, X = w.heap.size := ⟨_, rfl⟩
  rw [← hBx]
  refine name_w (fun W => Box2 W Bx p0 q0 ∧ Below w.heap.size w W) ?_ ?_
  · rw [hBx]
    exact ⟨heap_alloc_new w _, below_alloc w _⟩
  clear hBx
  rintro w0 ⟨h1, h2⟩
  have HB := Lib.hid h1
  have HW := Lib.hid h2
  clear h1 h2
  go_wp2_with fail
  refine (two_new HK.out w0).mono ?_
  rintro e w1 ⟨b, rfl, h⟩
  have H1 := Lib.hid h
  clear h
  go_wp2_with fail
  refine (awake_any HK.out _).mono ?_
  rintro e w2 ⟨rfl, hb⟩
  have H2 := Lib.hid (H1.out.keep HK.out.ks nof_keeps hb).1
  clear hb H1
  go_wp2_with fail
  refine (awake_any HK.out _).mono ?_
  rintro e w4 ⟨rfl, hb⟩
  have H4 := Lib.hid (H2.out.keep HK.out.ks nof_keeps hb).1
  clear hb
  go_wp2
  go_ret
  exact ⟨rfl, HW.out.trans (H4.out.low.mono HW.out.size)⟩
set_option maxRecDepth 100000 in
set_option maxHeartbeats 4000000 in
theorem inside {F : FleetIn} (hp : PkgF F) (A : Option Addr) (c0 : Nat) (p0 q0 : Int) (xs : List Ac) (w : World) (hx : ActsI w (.slice A xs.length c0) xs) (h : xs.length ≤ 300) : Calls Try.prog 5 #[.slice A xs.length c0, .agg #[.int .i64 p0, .int .i64 q0]] w (Holds w) := by
  have HK := Lib.hid hp
  have HI := Lib.hid hx
  have HLO := Lib.hid h
  have n3 : decide (300 < (xs.length : Int)) = false := by simp; omega
  have n4 : decide (300 < xs.length) = false := by simp; omega
  clear hp hx h
  go_enter Try.func5, Try.ntmps5
  go_upto_region 1 with (fail)
  obtain ⟨Bx, hBx⟩ : ∃ X, X = w.heap.size := ⟨_, rfl⟩
  rw [← hBx]
  refine name_w (fun W => Box2 W Bx p0 q0 ∧ Below w.heap.size w W) ?_ ?_
  · rw [hBx]
    exact ⟨heap_alloc_new w _, below_alloc w _⟩
  clear hBx
  rintro w0 ⟨h1, h2⟩
  have HB := Lib.hid h1
  have HW := Lib.hid h2
  clear h1 h2
  go_wp2_with fail
  refine (two_new HK.out w0).mono ?_
  rintro e w1 ⟨b, rfl, h⟩
  have H1 := Lib.hid h
  clear h
  go_wp2_with fail
  refine (awake_any HK.out _).mono ?_
  rintro e w2 ⟨rfl, hb⟩
  have H2 := Lib.hid (H1.out.keep HK.out.ks nof_keeps hb).1
  clear hb H1
  have m0 := (box_low HB.out H2.out.low).c0
  have m1 := (box_low HB.out H2.out.low).c1
  go_wp2_with fail
  refine (two_apply HK.out nof_keeps p0 q0 H2.out).mono ?_
  rintro e w3 ⟨rfl, h, _⟩
  have H3 := Lib.hid h
  clear h H2 m0 m1 n3 n4
  go_wp2
  go_loopg [28] xs.length (fun gg iv wr => ∃ (k : Nat) (y z : List Bool), Hid (gg = xs.length - k) ∧ k ≤ xs.length ∧ iv = .int .i64 (k : Int) ∧ Hid (y.length = clampN p0 ∧ z.length = clampN q0) ∧ Hid (Two F NoF w0 wr [] b y z 0 [] []))
  case atStart => exact ⟨0, _, _, Lib.hid rfl, Nat.zero_le _, rfl, Lib.hid ⟨scaleL_len _ _, scaleL_len _ _⟩, H3⟩
  case round =>
    obtain ⟨k, y, z, HGG, hk, rfl, HYZ, HT⟩ := hrel
    clear H3
    have hk9 : k ≤ 300 := by have := HLO.out; omega
    by_cases hlt : k < xs.length
    case neg =>
      have el : decide ((k : Int) < (xs.length : Int)) = false := by simpa using hlt
      have en : decide (k < xs.length) = false := decide_eq_false hlt
      clear hlt
      obtain ⟨n0, hn0⟩ : ∃ x : Int, x = y.length := ⟨_, rfl⟩
      obtain ⟨n1, hn1⟩ : ∃ x : Int, x = z.length := ⟨_, rfl⟩
      obtain ⟨c1, hc1⟩ : ∃ x : Int, x = cntL y := ⟨_, rfl⟩
      obtain ⟨c2, hc2⟩ : ∃ x : Int, x = cntL z := ⟨_, rfl⟩
      have HV1 : Hid (viewK y z = .agg #[.int .i64 n0, .int .i64 n1, .int .i64 c1, .int .i64 c2]) := Lib.hid (by rw [hn0, hn1, hc1, hc2]; rfl)
      have HV2 : Hid (viewK (fillL y) (fillL z) = .agg #[.int .i64 n0, .int .i64 n1, .int .i64 n0, .int .i64 n1]) := Lib.hid (by rw [hn0, hn1]; unfold viewK; rw [fillL_cnt, fillL_cnt, fillL_len, fillL_len]; rfl)
      have HF1 : Hid (fullL (slotK 0 (fillL y) (fillL z)) = decide (0 < n0)) := Lib.hid (by rw [hn0]; exact full_fill y)
      have HF2 : Hid (fullL (slotK 1 (fillL y) (fillL z)) = decide (0 < n1)) := Lib.hid (by rw [hn1]; exact full_fill z)
      clear hn0 hn1 hc1 hc2
      have q37 := eq37
      have q28 : ∀ (a b c e : Int) (w : World), (Op.equalIn 10000 28 (.agg #[.int .i64 a, .int .i64 b]) (.agg #[.int .i64 c, .int .i64 e])).run Try.prog w = .ok (a == c && b == e) w := fun a b c e w => eq28 9998 a b c e w
      go_wp2_with fail
      refine (two_view HK.out nof_keeps HT.out).mono ?_
      rw [HV1.out]
      rintro e w4 ⟨rfl, h, _⟩
      have H4 := Lib.hid h
      clear h HT
      go_upto_region 11 with (fail)
      obtain ⟨U, hU⟩ : ∃ X, X = w4.heap.size := ⟨_, rfl⟩
      rw [← hU]
      refine name_w (fun W => Two F NoF w0 W [U] b y z 0 [] [] ∧ Row4 W U n0 n1 c1 c2) ?_ ?_
      · rw [hU]
        exact ⟨H4.out.alloc HK.out.ks nof_keeps _, heap_alloc_new w4 _⟩
      clear hU H4
      rintro w5 h
      have H5 := Lib.hid h
      clear h
      have m0 := (box_low HB.out H5.out.1.low).c0
      have m1 := (box_low HB.out H5.out.1.low).c1
      go_wp2_with fail
      refine (two_apply HK.out nof_keeps p0 q0 H5.out.1).mono ?_
      rw [scale_same HYZ.out.1, scale_same HYZ.out.2]
      rintro e w6 ⟨rfl, h, hs⟩
      have H6 : Hid (Two F NoF w0 w6 [U] b y z 0 [] [] ∧ Row4 w6 U n0 n1 c1 c2) := Lib.hid ⟨h, (hs U (by simp)).trans H5.out.2⟩
      clear h hs H5 m0 m1
      go_upto_region 12 with (fail)
      have y1 := Row4.all (show Row4 w6.drew U _ _ _ _ from H6.out.2)
      go_region_held3 (fun wx => wx.cell? ⟨U, 0, none⟩ = some (.int .i64 n0) ∧ wx.cell? ⟨U, 1, none⟩ = some (.int .i64 n1) ∧ wx.cell? ⟨U, 2, none⟩ = some (.int .i64 c1) ∧ wx.cell? ⟨U, 3, none⟩ = some (.int .i64 c2)) (first | exact y2 | exact y1) (first | (go_at_call 17; refine (two_view HK.out nof_keeps (H6.out.1.keep HK.out.ks nof_keeps (below_drew1 _)).1).mono ?_; rw [HV1.out]; rintro e w7 ⟨rfl, h7, hs7⟩; have y2 := Row4.all ((hs7 U (by simp)).trans H6.out.2)))
      rename_i hh
      clear hh
      have H7 : Hid (Two F NoF w0 w7 [U] b y z 0 [] [] ∧ Row4 w7 U n0 n1 c1 c2) := Lib.hid ⟨h7, (hs7 U (by simp)).trans H6.out.2⟩
      clear h7 hs7 y1 y2 H6
      go_wp2_with fail
      refine (two_fill HK.out nof_keeps H7.out.1).mono ?_
      rintro e w8 ⟨rfl, h, hs⟩
      have H8 : Hid (Two F NoF w0 w8 [U] b (fillL y) (fillL z) 0 [] [] ∧ Row4 w8 U n0 n1 c1 c2) := Lib.hid ⟨h, (hs U (by simp)).trans H7.out.2⟩
      clear h hs H7
      go_wp2_with fail
      refine (two_view HK.out nof_keeps H8.out.1).mono ?_
      rw [HV2.out]
      rintro e w9 ⟨rfl, h, hs⟩
      have H9 : Hid (Two F NoF w0 w9 [U] b (fillL y) (fillL z) 0 [] [] ∧ Row4 w9 U n0 n1 c1 c2) := Lib.hid ⟨h, (hs U (by simp)).trans H8.out.2⟩
      clear h hs H8
      go_upto_region 16 with (fail)
      obtain ⟨V, hV⟩ : ∃ X, X = w9.heap.size := ⟨_, rfl⟩
      rw [← hV]
      refine name_w (fun W => Two F NoF w0 W [V, U] b (fillL y) (fillL z) 0 [] [] ∧ Row4 W U n0 n1 c1 c2 ∧ Row4 W V n0 n1 n0 n1) ?_ ?_
      · rw [hV]
        exact ⟨H9.out.1.alloc HK.out.ks nof_keeps _, ((below_alloc w9 _).block U (H9.out.1.xlt U (by simp))).trans H9.out.2, heap_alloc_new w9 _⟩
      clear hV H9
      rintro w10 h
      have H10 := Lib.hid h
      clear h
      have y1 := And.intro (Row4.all (show Row4 w10.drew U _ _ _ _ from H10.out.2.1)) (Row4.all (show Row4 w10.drew V _ _ _ _ from H10.out.2.2))
      have HJ : Hid (Two F NoF w0 w10.drew [V, U] b (fillL y) (fillL z) 0 [] []) := Lib.hid (H10.out.1.keep HK.out.ks nof_keeps (below_drew1 _)).1
      have r1 : Row4 w10.drew U _ _ _ _ := H10.out.2.1
      have r2 : Row4 w10.drew V _ _ _ _ := H10.out.2.2
      clear H10
      go_region_held3 (fun wx => (wx.cell? ⟨U, 0, none⟩ = some (.int .i64 n0) ∧ wx.cell? ⟨U, 1, none⟩ = some (.int .i64 n1) ∧ wx.cell? ⟨U, 2, none⟩ = some (.int .i64 c1) ∧ wx.cell? ⟨U, 3, none⟩ = some (.int .i64 c2)) ∧ wx.cell? ⟨V, 0, none⟩ = some (.int .i64 n0) ∧ wx.cell? ⟨V, 1, none⟩ = some (.int .i64 n1) ∧ wx.cell? ⟨V, 2, none⟩ = some (.int .i64 n0) ∧ wx.cell? ⟨V, 3, none⟩ = some (.int .i64 n1)) (first | exact y2 | exact y1) (first | (go_at_call 19; refine (full_s HK.out (by first | exact h11 | exact HJ.out) (by first | exact HF1.out | exact HF2.out)).mono ?_; rintro e w11 ⟨rfl, h11, hs11⟩; have r3 : Row4 w11 U n0 n1 c1 c2 := (hs11 U (by simp)).trans (by first | exact r3 | exact r1); have r4 : Row4 w11 V n0 n1 n0 n1 := (hs11 V (by simp)).trans (by first | exact r4 | exact r2); have y2 := And.intro (Row4.all r3) (Row4.all r4)))
      have HZ := Lib.hid (h11.low)
      clear y1 y2 r1 r2 r3 r4 h11 hs11
      go_wp2
      go_ret
      exact ⟨rfl, HW.out.trans (HZ.out.mono HW.out.size)⟩
    have el : decide ((k : Int) < (xs.length : Int)) = true := by simpa using hlt
    have en : decide (k < xs.length) = true := decide_eq_true hlt
    obtain ⟨B, off, rfl, hL⟩ := HI.out.kth (HW.out.trans (HT.out.low.mono HW.out.size)) hlt
    obtain ⟨⟨kd, sl, nm, on, p, q⟩, hA⟩ : ∃ A, A = xs[k] := ⟨_, rfl⟩
    rw [← hA] at hL
    obtain ⟨x0, x1, x2, x3, x4, x5⟩ := hL
    simp only at x0 x1 x2 x3 x4 x5
    have HLT := Lib.hid hlt
    clear hA hlt
    go_upto_region 8 with (fail)
    obtain ⟨A, hAb⟩ : ∃ X, X = wr.heap.size := ⟨_, rfl⟩
    rw [← hAb]
    refine name_w (fun W => TA F NoF w0 W A b y z 0 [] [] kd sl nm on p q) ?_ ?_
    · rw [hAb]
      exact TA.begin HK.out.ks nof_keeps HT.out
    clear hAb HT x0 x1 x2 x3 x4 x5
    rintro w4 h
    have m1 := h.act.c1
    have m2 := h.act.c2
    have m3 := h.act.c3
    have H4 := Lib.hid h
    clear h
    go_wp2_with fail
    refine (ta_ready HK.out nof_keeps sl nm on H4.out).mono ?_
    rintro e w5 ⟨rfl, h⟩
    have H5 := Lib.hid h.free
    clear h H4 m1 m2 m3
    go_wp2
    go_roundg (xs.length - (k + 1))
    case measure => have := HGG.out; have := HLT.out; omega
    case rel => exact ⟨k + 1, _, _, Lib.hid rfl, HLT.out, by go_num, Lib.hid ⟨by rw [rdA_len]; exact HYZ.out.1, by rw [rdB_len]; exact HYZ.out.2⟩, H5⟩
theorem walk {F : FleetIn} (hp : PkgF F) (v : Value) (p0 q0 : Int) (xs : List Ac) (w : World) (hx : ActsI w v xs) : Calls Try.prog 5 #[v, .agg #[.int .i64 p0, .int .i64 q0]] w (Holds w) := by
  obtain ⟨A, c, rfl⟩ := hx.shape
  by_cases h : xs.length ≤ 300
  · exact inside hp A c p0 q0 xs w hx h
  · exact out_len hp A c p0 q0 xs w (by omega)
end Go.Proofs.Ythgcpijokdbmhaa.fleetSame
