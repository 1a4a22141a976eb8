/-
  switchback's FleetApart: two fleets that are given the same for one slot, and not the same for the other one, say the same of that slot. For every input the law returns true, and each argument reads afterwards as it read before. No condition beside the row's own.
-/
import Derived.Test.YthgcpijokdbmhaaFleT
import Derived.Deep.LoopGhost
import Derived.Deep.Cut
import Derived.Deep.RegionHeld3
import Derived.Deep.QuietTactic
import Derived.BigQuiet
import Derived.Deep.CutRange
import Derived.Deep.CutBlock
namespace Go.Proofs.Ythgcpijokdbmhaa.fleetApart
open Go.Proofs.Ythgcpijokdbmhaa
open Go.ChangeShapes Go.WideShapes Go.ChangeAt Go.RowKit
set_option linter.unusedVariables false

theorem Row4.all {W : World} {A : Nat} {p q r s : Int} (h : Row4 W A p q r s) : W.cell? ⟨A, 0, none⟩ = some (.int .i64 p) ∧ W.cell? ⟨A, 1, none⟩ = some (.int .i64 q) ∧ W.cell? ⟨A, 2, none⟩ = some (.int .i64 r) ∧ W.cell? ⟨A, 3, none⟩ = some (.int .i64 s) := ⟨h.c0, h.c1, h.c2, h.c3⟩
section
variable {F : FleetIn} {w W : World} {A b c : Nat} {k l k' l' : List Bool} {kd sl nm : Int} {on : Bool} {p q : Int}
theorem ta2_apply (hp : PkgF F) (x y : Int) (h : TA F F w W A b k l c k' l' kd sl nm on p q) : Calls Try.prog 10 #[.pointer (some ⟨c, 0, none⟩), .agg #[.int .i64 x, .int .i64 y]] W fun e w' => e = .returned (.tuple #[]) ∧ TA F F w w' A b k l c (scaleL k' x) (scaleL l' y) kd sl nm on p q := (ta_apply hp hp.ks x y h.swap).mono fun _ _ ⟨he, h1⟩ => ⟨he, h1.swap⟩
theorem ta2_ready (hp : PkgF F) (s i : Int) (v : Bool) (h : TA F F w W A b k l c k' l' kd sl nm on p q) : Calls Try.prog 12 #[.pointer (some ⟨c, 0, none⟩), .int .i64 s, .int .i64 i, .bool v] W fun e w' => e = .returned (.bool (decide (isW (slotK s k' l') i))) ∧ TA F F w w' A b k l c (rdA k' s i v) (rdB l' s i v) kd sl nm on p q := (ta_ready hp hp.ks s i v h.swap).mono fun _ _ ⟨he, h1⟩ => ⟨he, h1.swap⟩
theorem two2_view (hp : PkgF F) {X : List Nat} (h : Two F F w W X b k l c k' l') : Calls Try.prog 17 #[.pointer (some ⟨c, 0, none⟩)] W fun e w' => e = .returned (viewK k' l') ∧ Two F F w w' X b k l c k' l' ∧ SameX X W w' := (two_view hp hp.ks (two_swap h)).mono fun _ _ ⟨he, h1, h2⟩ => ⟨he, two_swap h1, h2⟩
def FullAt (x b c : Nat) (s : Int) (k l k' l' : List Bool) (f : Bool) : Prop := (x = b ∧ fullL (slotK s k l) = f) ∨ (x = c ∧ fullL (slotK s k' l') = f)
theorem full_2 (hp : PkgF F) {X : List Nat} {x : Nat} {s : Int} {f : Bool} (h : Two F F w W X b k l c k' l') (hf : FullAt x b c s k l k' l' f) : Calls Try.prog 19 #[.pointer (some ⟨x, 0, none⟩), .int .i64 s] W fun e w' => e = .returned (.bool f) ∧ Two F F w w' X b k l c k' l' ∧ SameX X W w' := by
  rcases hf with ⟨rfl, rfl⟩ | ⟨rfl, rfl⟩
  · exact two_full hp hp.ks s h
  · exact (two_full hp hp.ks s (two_swap h)).mono fun _ _ ⟨he, h1, h2⟩ => ⟨he, two_swap h1, h2⟩
theorem ta_set4 (hF : Keeps F) (x : Int) (h : TA F F w W A b k l c k' l' kd sl nm on p q) : TA F F w (W.setCell ⟨A, 4, none⟩ (.int .i64 x)) A b k l c k' l' kd sl nm on x q := ⟨h.two.set hF hF (by simp) 4 _, h.act.set4 x⟩
theorem ta_set5 (hF : Keeps F) (x : Int) (h : TA F F w W A b k l c k' l' kd sl nm on p q) : TA F F w (W.setCell ⟨A, 5, none⟩ (.int .i64 x)) A b k l c k' l' kd sl nm on p x := ⟨h.two.set hF hF (by simp) 5 _, h.act.set5 x⟩
end
set_option maxRecDepth 100000 in
set_option maxHeartbeats 4000000 in
theorem out_slot {F : FleetIn} (hp : PkgF F) (A0 : Option Addr) (c0 : Nat) (slot : Int) (xs : List Ac) (w : World) (h0 : slot ≠ 0) (h1 : slot ≠ 1) : Calls Try.prog 4 #[.slice A0 xs.length c0, .int .i64 slot] w (Holds w) := by
  have HK := Lib.hid hp
  have n1 : (slot == 0) = false := beq_eq_false_iff_ne.2 h0
  have n2 : (slot == 1) = false := beq_eq_false_iff_ne.2 h1
  have n3 : (slot != 0) = true := bne_iff_ne.2 h0
  have n4 : (slot != 1) = true := bne_iff_ne.2 h1
  have n5 : decide (slot = 0) = false := decide_eq_false h0
  have n6 : decide (slot = 1) = false := decide_eq_false h1
  clear hp h0 h1
  go_enter Try.func4, Try.ntmps4
  go_wp2_with fail
  refine (two_new HK.out w).mono ?_
  rintro e w1 ⟨b, rfl, h⟩
  have H1 := Lib.hid h
  clear h
  go_wp2_with fail
  refine (two_new2 HK.out H1.out).mono ?_
  rintro e w2 ⟨c, rfl, h⟩
  have H2 := Lib.hid h
  clear h H1
  go_wp2_with fail
  refine (awake_any HK.out _).mono ?_
  rintro e w3 ⟨rfl, hb⟩
  have H3 := Lib.hid (H2.out.keep HK.out.ks HK.out.ks hb).1
  clear hb H2
  go_wp2_with fail
  refine (awake_any HK.out _).mono ?_
  rintro e w4 ⟨rfl, hb⟩
  have H4 := Lib.hid (H3.out.keep HK.out.ks HK.out.ks hb).1
  clear hb
  go_wp2
  go_ret
  exact ⟨rfl, H4.out.low⟩
set_option maxRecDepth 100000 in
set_option maxHeartbeats 4000000 in
theorem out_len0 {F : FleetIn} (hp : PkgF F) (A0 : Option Addr) (c0 : Nat) (xs : List Ac) (w : World) (h : 300 < xs.length) : Calls Try.prog 4 #[.slice A0 xs.length c0, .int .i64 0] w (Holds w) := by
  have HK := Lib.hid hp
  have n3 : decide (300 < (xs.length : Int)) = true := by simp; omega
  have n4 : decide (300 < xs.length) = true := by simp; omega
  clear hp h
  go_enter Try.func4, Try.ntmps4
  go_wp2_with fail
  refine (two_new HK.out w).mono ?_
  rintro e w1 ⟨b, rfl, h⟩
  have H1 := Lib.hid h
  clear h
  go_wp2_with fail
  refine (two_new2 HK.out H1.out).mono ?_
  rintro e w2 ⟨c, rfl, h⟩
  have H2 := Lib.hid h
  clear h H1
  go_wp2_with fail
  refine (awake_any HK.out _).mono ?_
  rintro e w3 ⟨rfl, hb⟩
  have H3 := Lib.hid (H2.out.keep HK.out.ks HK.out.ks hb).1
  clear hb H2
  go_wp2_with fail
  refine (awake_any HK.out _).mono ?_
  rintro e w4 ⟨rfl, hb⟩
  have H4 := Lib.hid (H3.out.keep HK.out.ks HK.out.ks hb).1
  clear hb
  go_wp2
  go_ret
  exact ⟨rfl, H4.out.low⟩
set_option maxRecDepth 100000 in
set_option maxHeartbeats 4000000 in
theorem inside0 {F : FleetIn} (hp : PkgF F) (A0 : Option Addr) (c0 : Nat) (xs : List Ac) (w : World) (hx : ActsI w (.slice A0 xs.length c0) xs) (h : xs.length ≤ 300) : Calls Try.prog 4 #[.slice A0 xs.length c0, .int .i64 0] w (Holds w) := by
  have HK := Lib.hid hp
  have HI := Lib.hid hx
  have HLO := Lib.hid h
  have n3 : decide (300 < (xs.length : Int)) = false := by simp; omega
  have n4 : decide (300 < xs.length) = false := by simp; omega
  clear hp hx h
  go_enter Try.func4, Try.ntmps4
  go_wp2_with fail
  refine (two_new HK.out w).mono ?_
  rintro e w1 ⟨b, rfl, h⟩
  have H1 := Lib.hid h
  clear h
  go_wp2_with fail
  refine (two_new2 HK.out H1.out).mono ?_
  rintro e w2 ⟨c, rfl, h⟩
  have H2 := Lib.hid h
  clear h H1
  go_wp2_with fail
  refine (awake_any HK.out _).mono ?_
  rintro e w3 ⟨rfl, hb⟩
  have H3 := Lib.hid (H2.out.keep HK.out.ks HK.out.ks hb).1
  clear hb H2
  go_wp2
  clear n3 n4
  go_loopg [39] xs.length (fun gg iv wr => ∃ (k : Nat) (y z z2 : List Bool), Hid (gg = xs.length - k) ∧ k ≤ xs.length ∧ iv = .int .i64 (k : Int) ∧ Hid (Two F F w wr [] b y z c y z2))
  case atStart => exact ⟨0, [], [], [], Lib.hid rfl, Nat.zero_le _, rfl, H3⟩
  case round =>
    obtain ⟨k, y, z, z2, HGG, hk, rfl, HB⟩ := hrel
    clear H3
    have hk9 : k ≤ 300 := by have := HLO.out; omega
    by_cases hlt : k < xs.length
    case neg =>
      have el : decide ((k : Int) < (xs.length : Int)) = false := by simpa using hlt
      have en : decide (k < xs.length) = false := decide_eq_false hlt
      clear hlt
      go_wp2
      go_ret
      exact ⟨rfl, HB.out.low⟩
    have el : decide ((k : Int) < (xs.length : Int)) = true := by simpa using hlt
    have en : decide (k < xs.length) = true := decide_eq_true hlt
    obtain ⟨B, off, rfl, hL⟩ := HI.out.kth HB.out.low hlt
    obtain ⟨⟨kd, sl, nm, on, p, q⟩, hA⟩ : ∃ A, A = xs[k] := ⟨_, rfl⟩
    rw [← hA] at hL
    obtain ⟨x0, x1, x2, x3, x4, x5⟩ := hL
    simp only at x0 x1 x2 x3 x4 x5
    have HLT := Lib.hid hlt
    clear hA hlt
    go_upto_region 7 with (fail)
    obtain ⟨A, hAb⟩ : ∃ X, X = wr.heap.size := ⟨_, rfl⟩
    rw [← hAb]
    refine name_w (fun W => TA F F w W A b y z c y z2 kd sl nm on p q) ?_ ?_
    · rw [hAb]
      exact TA.begin HK.out.ks HK.out.ks HB.out
    clear hAb HB x0 x1 x2 x3 x4 x5
    rintro w4 h
    have m0 := h.act.c0
    have H4 := Lib.hid h
    clear h
    go_upto_block 2 with (fail)
    go_cut [] from 40 to 114 (fun W => ∃ y3 z3 rr : List Bool, Hid (Two F F w W [] b y3 z3 c y3 rr))
    case rest =>
      obtain ⟨y3, z3, rr, HC⟩ := hcut
      clear H4 m0
      obtain ⟨n0, n1, n2, n3, hv⟩ : ∃ n0 n1 n2 n3 : Int, viewK y3 z3 = .agg #[.int .i64 n0, .int .i64 n1, .int .i64 n2, .int .i64 n3] ∧ n0 = y3.length ∧ n2 = cntL y3 := ⟨_, _, _, _, rfl, rfl, rfl⟩
      obtain ⟨o0, o1, o2, o3, hu⟩ : ∃ o0 o1 o2 o3 : Int, viewK y3 rr = .agg #[.int .i64 o0, .int .i64 o1, .int .i64 o2, .int .i64 o3] ∧ o0 = y3.length ∧ o2 = cntL y3 := ⟨_, _, _, _, rfl, rfl, rfl⟩
      obtain rfl : n0 = o0 := hv.2.1.trans hu.2.1.symm
      obtain rfl : n2 = o2 := hv.2.2.trans hu.2.2.symm
      have HV := Lib.hid hv.1
      have HU := Lib.hid hu.1
      clear hv hu
      go_wp2_with fail
      refine (two_view HK.out HK.out.ks HC.out).mono ?_
      rw [HV.out]
      rintro e w5 ⟨rfl, h, _⟩
      have H5 := Lib.hid h
      clear h HC
      go_wp2_with fail
      refine (two2_view HK.out H5.out).mono ?_
      rw [HU.out]
      rintro e w6 ⟨rfl, h, _⟩
      have H6 := Lib.hid h
      clear h H5
      go_upto_region 17 with (fail)
      obtain ⟨M, hM⟩ : ∃ X, X = w6.heap.size := ⟨_, rfl⟩
      obtain ⟨N, hN⟩ : ∃ X, X = w6.heap.size + 1 := ⟨_, rfl⟩
      rw [← hN, ← hM]
      refine name_w (fun W => Two F F w W [N, M] b y3 z3 c y3 rr ∧ Row4 W M n0 n1 n2 n3 ∧ Row4 W N n0 o1 n2 o3) ?_ ?_
      · rw [hN, hM]
        exact ⟨((H6.out.alloc HK.out.ks HK.out.ks _).alloc HK.out.ks HK.out.ks _).fewer (by simp), heap_alloc2_old w6 _ _, heap_alloc2_new w6 _ _⟩
      clear hM hN H6
      rintro w7 h7
      have H7 := Lib.hid h7
      clear h7
      obtain ⟨f0, hf⟩ : ∃ x, x = fullL y3 := ⟨_, rfl⟩
      have HF1 : Hid (FullAt b b c 0 y3 z3 y3 rr f0) := Lib.hid (.inl ⟨rfl, by rw [hf]; rfl⟩)
      have HF2 : Hid (FullAt c b c 0 y3 z3 y3 rr f0) := Lib.hid (.inr ⟨rfl, by rw [hf]; rfl⟩)
      clear hf
      have r1 : Row4 w7.drew M _ _ _ _ := H7.out.2.1
      have r2 : Row4 w7.drew N _ _ _ _ := H7.out.2.2
      have y1 := And.intro (Row4.all r1) (Row4.all r2)
      have HJ := Lib.hid (H7.out.1.keep HK.out.ks HK.out.ks (below_drew1 _)).1
      clear H7
      go_region_held3 (fun wx => (wx.cell? ⟨M, 0, none⟩ = some (.int .i64 n0) ∧ wx.cell? ⟨M, 1, none⟩ = some (.int .i64 n1) ∧ wx.cell? ⟨M, 2, none⟩ = some (.int .i64 n2) ∧ wx.cell? ⟨M, 3, none⟩ = some (.int .i64 n3)) ∧ wx.cell? ⟨N, 0, none⟩ = some (.int .i64 n0) ∧ wx.cell? ⟨N, 1, none⟩ = some (.int .i64 o1) ∧ wx.cell? ⟨N, 2, none⟩ = some (.int .i64 n2) ∧ wx.cell? ⟨N, 3, none⟩ = some (.int .i64 o3)) (first | exact y2 | exact y1) (first | (go_at_call 19; refine (full_2 HK.out (by first | exact h8 | exact HJ.out) (by first | exact HF1.out | exact HF2.out)).mono ?_; rintro e w8 ⟨rfl, h8, hs8⟩; have r3 : Row4 w8 M n0 n1 n2 n3 := (hs8 M (by simp)).trans (by first | exact r3 | exact r1); have r4 : Row4 w8 N n0 o1 n2 o3 := (hs8 N (by simp)).trans (by first | exact r4 | exact r2); have y2 := And.intro (Row4.all r3) (Row4.all r4)))
      have HX := Lib.hid (Two.fewer (Y := []) h8 (by simp))
      clear y1 y2 r1 r2 r3 r4 h8 hs8
      go_wp2
      go_roundg (xs.length - (k + 1))
      case measure => have := HGG.out; have := HLT.out; omega
      case rel => exact ⟨k + 1, y3, z3, rr, Lib.hid rfl, HLT.out, by go_num, HX⟩
    case first =>
      by_cases c1 : kd = 1
      case pos =>
        subst c1
        have m4 := H4.out.act.c4
        have m5 := H4.out.act.c5
        go_wp2_with fail
        refine (ta_apply HK.out HK.out.ks p q H4.out).mono ?_
        rintro e w5 ⟨rfl, h⟩
        have H5 := Lib.hid h
        clear h H4
        clear m0 m4 m5
        have m4 := H5.out.act.c4
        have m5 := H5.out.act.c5
        have q4 := H5.out.act.fr 4
        have q5 := H5.out.act.fr 5
        go_upto_region 11 with (fail)
        refine name_w (fun W => TA F F w W A b (scaleL y p) (scaleL z q) c y z2 1 sl nm on p 7) (ta_set5 HK.out.ks 7 H5.out) ?_
        clear m4 m5 q4 q5 H5
        rintro w6 h
        have m4 := h.act.c4
        have m5 := h.act.c5
        have H6 := Lib.hid h
        clear h
        go_wp2_with fail
        refine (ta2_apply HK.out p 7 H6.out).mono ?_
        rintro e w7 ⟨rfl, h⟩
        have H7 := Lib.hid h
        clear h H6
        have HX := Lib.hid H7.out.free
        clear H7 m4 m5
        go_wp2
        go_meet
        case rel => exact ⟨_, _, _, HX⟩
      by_cases c2 : kd = 2
      case pos =>
        subst c2
        have m1 := H4.out.act.c1
        have m2 := H4.out.act.c2
        have m3 := H4.out.act.c3
        go_wp2_with fail
        refine (ta_ready HK.out HK.out.ks sl nm on H4.out).mono ?_
        rintro e w5 ⟨rfl, h⟩
        have H5 := Lib.hid h
        clear h H4
        clear m0 m1 m2 m3
        have m1 := H5.out.act.c1
        have m2 := H5.out.act.c2
        have m3 := H5.out.act.c3
        by_cases hs : sl = 0
        case neg =>
          have g1 : (sl == 0) = false := beq_eq_false_iff_ne.2 hs
          have h5 := H5.out.free
          rw [show rdA y sl nm on = y from if_neg hs] at h5
          have HX := Lib.hid h5
          clear h5 hs H5
          go_wp2
          go_meet
          case rel => exact ⟨_, _, _, HX⟩
        subst hs
        go_wp2_with fail
        refine (ta2_ready HK.out 0 nm on H5.out).mono ?_
        rintro e w6 ⟨rfl, h⟩
        have H6 := Lib.hid h
        clear h H5
        have HX := Lib.hid H6.out.free
        clear H6 m1 m2 m3
        go_wp2
        go_meet
        case rel => exact ⟨_, _, _, HX⟩
      have g1 : (kd == 1) = false := beq_eq_false_iff_ne.2 c1
      have g2 : (kd == 2) = false := beq_eq_false_iff_ne.2 c2
      have HX := Lib.hid H4.out.free
      clear c1 c2 H4
      go_wp2
      go_meet
      case rel => exact ⟨_, _, _, HX⟩
set_option maxRecDepth 100000 in
set_option maxHeartbeats 4000000 in
theorem out_len1 {F : FleetIn} (hp : PkgF F) (A0 : Option Addr) (c0 : Nat) (xs : List Ac) (w : World) (h : 300 < xs.length) : Calls Try.prog 4 #[.slice A0 xs.length c0, .int .i64 1] w (Holds w) := by
  have HK := Lib.hid hp
  have n3 : decide (300 < (xs.length : Int)) = true := by simp; omega
  have n4 : decide (300 < xs.length) = true := by simp; omega
  clear hp h
  go_enter Try.func4, Try.ntmps4
  go_wp2_with fail
  refine (two_new HK.out w).mono ?_
  rintro e w1 ⟨b, rfl, h⟩
  have H1 := Lib.hid h
  clear h
  go_wp2_with fail
  refine (two_new2 HK.out H1.out).mono ?_
  rintro e w2 ⟨c, rfl, h⟩
  have H2 := Lib.hid h
  clear h H1
  go_wp2_with fail
  refine (awake_any HK.out _).mono ?_
  rintro e w3 ⟨rfl, hb⟩
  have H3 := Lib.hid (H2.out.keep HK.out.ks HK.out.ks hb).1
  clear hb H2
  go_wp2_with fail
  refine (awake_any HK.out _).mono ?_
  rintro e w4 ⟨rfl, hb⟩
  have H4 := Lib.hid (H3.out.keep HK.out.ks HK.out.ks hb).1
  clear hb
  go_wp2
  go_ret
  exact ⟨rfl, H4.out.low⟩
set_option maxRecDepth 100000 in
set_option maxHeartbeats 4000000 in
theorem inside1 {F : FleetIn} (hp : PkgF F) (A0 : Option Addr) (c0 : Nat) (xs : List Ac) (w : World) (hx : ActsI w (.slice A0 xs.length c0) xs) (h : xs.length ≤ 300) : Calls Try.prog 4 #[.slice A0 xs.length c0, .int .i64 1] w (Holds w) := by
  have HK := Lib.hid hp
  have HI := Lib.hid hx
  have HLO := Lib.hid h
  have n3 : decide (300 < (xs.length : Int)) = false := by simp; omega
  have n4 : decide (300 < xs.length) = false := by simp; omega
  clear hp hx h
  go_enter Try.func4, Try.ntmps4
  go_wp2_with fail
  refine (two_new HK.out w).mono ?_
  rintro e w1 ⟨b, rfl, h⟩
  have H1 := Lib.hid h
  clear h
  go_wp2_with fail
  refine (two_new2 HK.out H1.out).mono ?_
  rintro e w2 ⟨c, rfl, h⟩
  have H2 := Lib.hid h
  clear h H1
  go_wp2_with fail
  refine (awake_any HK.out _).mono ?_
  rintro e w3 ⟨rfl, hb⟩
  have H3 := Lib.hid (H2.out.keep HK.out.ks HK.out.ks hb).1
  clear hb H2
  go_wp2
  clear n3 n4
  go_loopg [39] xs.length (fun gg iv wr => ∃ (k : Nat) (y z y2 : List Bool), Hid (gg = xs.length - k) ∧ k ≤ xs.length ∧ iv = .int .i64 (k : Int) ∧ Hid (Two F F w wr [] b y z c y2 z))
  case atStart => exact ⟨0, [], [], [], Lib.hid rfl, Nat.zero_le _, rfl, H3⟩
  case round =>
    obtain ⟨k, y, z, y2, HGG, hk, rfl, HB⟩ := hrel
    clear H3
    have hk9 : k ≤ 300 := by have := HLO.out; omega
    by_cases hlt : k < xs.length
    case neg =>
      have el : decide ((k : Int) < (xs.length : Int)) = false := by simpa using hlt
      have en : decide (k < xs.length) = false := decide_eq_false hlt
      clear hlt
      go_wp2
      go_ret
      exact ⟨rfl, HB.out.low⟩
    have el : decide ((k : Int) < (xs.length : Int)) = true := by simpa using hlt
    have en : decide (k < xs.length) = true := decide_eq_true hlt
    obtain ⟨B, off, rfl, hL⟩ := HI.out.kth HB.out.low hlt
    obtain ⟨⟨kd, sl, nm, on, p, q⟩, hA⟩ : ∃ A, A = xs[k] := ⟨_, rfl⟩
    rw [← hA] at hL
    obtain ⟨x0, x1, x2, x3, x4, x5⟩ := hL
    simp only at x0 x1 x2 x3 x4 x5
    have HLT := Lib.hid hlt
    clear hA hlt
    go_upto_region 7 with (fail)
    obtain ⟨A, hAb⟩ : ∃ X, X = wr.heap.size := ⟨_, rfl⟩
    rw [← hAb]
    refine name_w (fun W => TA F F w W A b y z c y2 z kd sl nm on p q) ?_ ?_
    · rw [hAb]
      exact TA.begin HK.out.ks HK.out.ks HB.out
    clear hAb HB x0 x1 x2 x3 x4 x5
    rintro w4 h
    have m0 := h.act.c0
    have H4 := Lib.hid h
    clear h
    go_upto_block 2 with (fail)
    go_cut [] from 40 to 114 (fun W => ∃ y3 z3 rr : List Bool, Hid (Two F F w W [] b y3 z3 c rr z3))
    case rest =>
      obtain ⟨y3, z3, rr, HC⟩ := hcut
      clear H4 m0
      obtain ⟨n0, n1, n2, n3, hv⟩ : ∃ n0 n1 n2 n3 : Int, viewK y3 z3 = .agg #[.int .i64 n0, .int .i64 n1, .int .i64 n2, .int .i64 n3] ∧ n1 = z3.length ∧ n3 = cntL z3 := ⟨_, _, _, _, rfl, rfl, rfl⟩
      obtain ⟨o0, o1, o2, o3, hu⟩ : ∃ o0 o1 o2 o3 : Int, viewK rr z3 = .agg #[.int .i64 o0, .int .i64 o1, .int .i64 o2, .int .i64 o3] ∧ o1 = z3.length ∧ o3 = cntL z3 := ⟨_, _, _, _, rfl, rfl, rfl⟩
      obtain rfl : n1 = o1 := hv.2.1.trans hu.2.1.symm
      obtain rfl : n3 = o3 := hv.2.2.trans hu.2.2.symm
      have HV := Lib.hid hv.1
      have HU := Lib.hid hu.1
      clear hv hu
      go_wp2_with fail
      refine (two_view HK.out HK.out.ks HC.out).mono ?_
      rw [HV.out]
      rintro e w5 ⟨rfl, h, _⟩
      have H5 := Lib.hid h
      clear h HC
      go_wp2_with fail
      refine (two2_view HK.out H5.out).mono ?_
      rw [HU.out]
      rintro e w6 ⟨rfl, h, _⟩
      have H6 := Lib.hid h
      clear h H5
      go_upto_region 17 with (fail)
      obtain ⟨M, hM⟩ : ∃ X, X = w6.heap.size := ⟨_, rfl⟩
      obtain ⟨N, hN⟩ : ∃ X, X = w6.heap.size + 1 := ⟨_, rfl⟩
      rw [← hN, ← hM]
      refine name_w (fun W => Two F F w W [N, M] b y3 z3 c rr z3 ∧ Row4 W M n0 n1 n2 n3 ∧ Row4 W N o0 n1 o2 n3) ?_ ?_
      · rw [hN, hM]
        exact ⟨((H6.out.alloc HK.out.ks HK.out.ks _).alloc HK.out.ks HK.out.ks _).fewer (by simp), heap_alloc2_old w6 _ _, heap_alloc2_new w6 _ _⟩
      clear hM hN H6
      rintro w7 h7
      have H7 := Lib.hid h7
      clear h7
      obtain ⟨f0, hf⟩ : ∃ x, x = fullL z3 := ⟨_, rfl⟩
      have HF1 : Hid (FullAt b b c 1 y3 z3 rr z3 f0) := Lib.hid (.inl ⟨rfl, by rw [hf]; rfl⟩)
      have HF2 : Hid (FullAt c b c 1 y3 z3 rr z3 f0) := Lib.hid (.inr ⟨rfl, by rw [hf]; rfl⟩)
      clear hf
      have r1 : Row4 w7.drew M _ _ _ _ := H7.out.2.1
      have r2 : Row4 w7.drew N _ _ _ _ := H7.out.2.2
      have y1 := And.intro (Row4.all r1) (Row4.all r2)
      have HJ := Lib.hid (H7.out.1.keep HK.out.ks HK.out.ks (below_drew1 _)).1
      clear H7
      go_region_held3 (fun wx => (wx.cell? ⟨M, 0, none⟩ = some (.int .i64 n0) ∧ wx.cell? ⟨M, 1, none⟩ = some (.int .i64 n1) ∧ wx.cell? ⟨M, 2, none⟩ = some (.int .i64 n2) ∧ wx.cell? ⟨M, 3, none⟩ = some (.int .i64 n3)) ∧ wx.cell? ⟨N, 0, none⟩ = some (.int .i64 o0) ∧ wx.cell? ⟨N, 1, none⟩ = some (.int .i64 n1) ∧ wx.cell? ⟨N, 2, none⟩ = some (.int .i64 o2) ∧ wx.cell? ⟨N, 3, none⟩ = some (.int .i64 n3)) (first | exact y2 | exact y1) (first | (go_at_call 19; refine (full_2 HK.out (by first | exact h8 | exact HJ.out) (by first | exact HF1.out | exact HF2.out)).mono ?_; rintro e w8 ⟨rfl, h8, hs8⟩; have r3 : Row4 w8 M n0 n1 n2 n3 := (hs8 M (by simp)).trans (by first | exact r3 | exact r1); have r4 : Row4 w8 N o0 n1 o2 n3 := (hs8 N (by simp)).trans (by first | exact r4 | exact r2); have y2 := And.intro (Row4.all r3) (Row4.all r4)))
      have HX := Lib.hid (Two.fewer (Y := []) h8 (by simp))
      clear y1 y2 r1 r2 r3 r4 h8 hs8
      go_wp2
      go_roundg (xs.length - (k + 1))
      case measure => have := HGG.out; have := HLT.out; omega
      case rel => exact ⟨k + 1, y3, z3, rr, Lib.hid rfl, HLT.out, by go_num, HX⟩
    case first =>
      by_cases c1 : kd = 1
      case pos =>
        subst c1
        have m4 := H4.out.act.c4
        have m5 := H4.out.act.c5
        go_wp2_with fail
        refine (ta_apply HK.out HK.out.ks p q H4.out).mono ?_
        rintro e w5 ⟨rfl, h⟩
        have H5 := Lib.hid h
        clear h H4
        clear m0 m4 m5
        have m4 := H5.out.act.c4
        have m5 := H5.out.act.c5
        have q4 := H5.out.act.fr 4
        have q5 := H5.out.act.fr 5
        go_upto_region 11 with (fail)
        refine name_w (fun W => TA F F w W A b (scaleL y p) (scaleL z q) c y2 z 1 sl nm on 7 q) (ta_set4 HK.out.ks 7 H5.out) ?_
        clear m4 m5 q4 q5 H5
        rintro w6 h
        have m4 := h.act.c4
        have m5 := h.act.c5
        have H6 := Lib.hid h
        clear h
        go_wp2_with fail
        refine (ta2_apply HK.out 7 q H6.out).mono ?_
        rintro e w7 ⟨rfl, h⟩
        have H7 := Lib.hid h
        clear h H6
        have HX := Lib.hid H7.out.free
        clear H7 m4 m5
        go_wp2
        go_meet
        case rel => exact ⟨_, _, _, HX⟩
      by_cases c2 : kd = 2
      case pos =>
        subst c2
        have m1 := H4.out.act.c1
        have m2 := H4.out.act.c2
        have m3 := H4.out.act.c3
        go_wp2_with fail
        refine (ta_ready HK.out HK.out.ks sl nm on H4.out).mono ?_
        rintro e w5 ⟨rfl, h⟩
        have H5 := Lib.hid h
        clear h H4
        clear m0 m1 m2 m3
        have m1 := H5.out.act.c1
        have m2 := H5.out.act.c2
        have m3 := H5.out.act.c3
        by_cases hs : sl = 1
        case neg =>
          have g1 : (sl == 1) = false := beq_eq_false_iff_ne.2 hs
          have h5 := H5.out.free
          rw [show rdB z sl nm on = z from if_neg hs] at h5
          have HX := Lib.hid h5
          clear h5 hs H5
          go_wp2
          go_meet
          case rel => exact ⟨_, _, _, HX⟩
        subst hs
        go_wp2_with fail
        refine (ta2_ready HK.out 1 nm on H5.out).mono ?_
        rintro e w6 ⟨rfl, h⟩
        have H6 := Lib.hid h
        clear h H5
        have HX := Lib.hid H6.out.free
        clear H6 m1 m2 m3
        go_wp2
        go_meet
        case rel => exact ⟨_, _, _, HX⟩
      have g1 : (kd == 1) = false := beq_eq_false_iff_ne.2 c1
      have g2 : (kd == 2) = false := beq_eq_false_iff_ne.2 c2
      have HX := Lib.hid H4.out.free
      clear c1 c2 H4
      go_wp2
      go_meet
      case rel => exact ⟨_, _, _, HX⟩
theorem walk {F : FleetIn} (hp : PkgF F) (v : Value) (slot : Int) (xs : List Ac) (w : World) (hx : ActsI w v xs) : Calls Try.prog 4 #[v, .int .i64 slot] w (Holds w) := by
  obtain ⟨A, c, rfl⟩ := hx.shape
  by_cases h0 : slot = 0
  · subst h0
    by_cases h : xs.length ≤ 300
    · exact inside0 hp A c xs w hx h
    · exact out_len0 hp A c xs w (by omega)
  by_cases h1 : slot = 1
  · subst h1
    by_cases h : xs.length ≤ 300
    · exact inside1 hp A c xs w hx h
    · exact out_len1 hp A c xs w (by omega)
  exact out_slot hp A c slot xs w h0 h1
end Go.Proofs.Ythgcpijokdbmhaa.fleetApart
