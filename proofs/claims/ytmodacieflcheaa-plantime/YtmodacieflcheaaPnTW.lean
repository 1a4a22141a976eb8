/-
  switchback's PlanTime: what is to be done at two ticks is the same, or a scale-down that waits at the earlier one. For every input the law returns true, and each argument reads afterwards as it read before. No condition beside the row's own.
-/
import Derived.Test.YtmodacieflcheaaLift
namespace Go.Proofs.Ytmodacieflcheaa.planTime
open Go.Proofs.Ytmodacieflcheaa
open Go.ChangeShapes Go.WideShapes Go.ChangeAt Go.RowKit
set_option linter.unusedVariables false

theorem rows3 (w : World) (cs vs x : Array Value) : Rw (((w.alloc (.cells cs 25)).alloc (.cells vs 27)).alloc (.cells x 22)) w.heap.size cs 25 ∧ Rw (((w.alloc (.cells cs 25)).alloc (.cells vs 27)).alloc (.cells x 22)) (w.heap.size + 1) vs 27 ∧ Rw (((w.alloc (.cells cs 25)).alloc (.cells vs 27)).alloc (.cells x 22)) (w.heap.size + 1 + 1) x 22 ∧ Below w.heap.size w (((w.alloc (.cells cs 25)).alloc (.cells vs 27)).alloc (.cells x 22)) := by
  have h0 := ((Rw.new w cs 25).alloc (.cells vs 27)).alloc (.cells x 22)
  have h1 := (Rw.new (w.alloc (.cells cs 25)) vs 27).alloc (.cells x 22)
  have h2 := Rw.new ((w.alloc (.cells cs 25)).alloc (.cells vs 27)) x 22
  simp only [size_alloc] at h1 h2
  exact ⟨h0, h1, h2, (((Below.refl _ _).alloc (Nat.le_refl _) _).alloc (by simp) _).alloc (by simp; omega) _⟩
theorem less_mono {a b c : Int} (h : a ≤ b) : lessI a c ≤ lessI b c := by unfold lessI; (repeat' split) <;> omega
theorem time_x (ph sw gn dl : Int) (fo : Bool) (l1 l2 : Int) (h : l1 ≤ l2) : (nextX ph sw gn dl fo l1).1 = (nextX ph sw gn dl fo l2).1 ∨ (ph = 5 ∧ (nextX ph sw gn dl fo l1).1 = 0 ∧ (nextX ph sw gn dl fo l2).1 = 6) := by
  unfold nextX
  by_cases h1 : ph = 1 ∧ fo = true
  · rw [if_pos h1, if_pos h1]; exact .inl rfl
  rw [if_neg h1, if_neg h1]
  by_cases h2 : ph = 3 ∨ ph = 6
  · rw [if_pos h2, if_pos h2]; exact .inl rfl
  rw [if_neg h2, if_neg h2]
  by_cases h3 : ph = 7 ∨ ph = 5 ∧ dl ≤ l1
  · rw [if_pos h3, if_pos (by omega)]; exact .inl rfl
  rw [if_neg h3]
  by_cases h4 : ph = 7 ∨ ph = 5 ∧ dl ≤ l2
  · rw [if_pos h4]; exact .inr ⟨by omega, rfl, rfl⟩
  rw [if_neg h4]
  exact .inl rfl
set_option maxRecDepth 100000 in
set_option maxHeartbeats 8000000 in
theorem walk_lt (hp : PkgPl) (ph ac r0 r1 w0 w1 dl gn sw fl n m : Int) (p0 p1 : Bool) (v : Vw) (w : World) (hs : FitsS ⟨ph, ac, r0, r1, w0, w1, p0, p1, dl, gn, sw, fl⟩) (hv : FitsV v) (hn : Fits n) (hm : Fits m) (hlt : n < m) : Calls Try.prog 8 #[stV ⟨ph, ac, r0, r1, w0, w1, p0, p1, dl, gn, sw, fl⟩, vwV v, .agg #[.int .i64 n, .int .i64 m]] w (Holds w) := by
  have HAW : Hid (∀ W, Calls Try.prog 9 #[] W fun e w' => e = .returned (.bool true) ∧ Below W.heap.size W w') := Lib.hid (awake_any hp)
  obtain ⟨rt, hrt⟩ : ∃ b, b = rightS ⟨ph, ac, r0, r1, w0, w1, p0, p1, dl, gn, sw, fl⟩ := ⟨_, rfl⟩
  obtain ⟨x, hx⟩ : ∃ x, x = nextS ⟨ph, ac, r0, r1, w0, w1, p0, p1, dl, gn, sw, fl⟩ v n := ⟨_, rfl⟩
  obtain ⟨y, hy⟩ : ∃ x, x = nextS ⟨ph, ac, r0, r1, w0, w1, p0, p1, dl, gn, sw, fl⟩ v m := ⟨_, rfl⟩
  have HMR : Hid (∀ W, Calls Try.prog 10 #[.agg (stC ⟨ph, ac, r0, r1, w0, w1, p0, p1, dl, gn, sw, fl⟩)] W fun e w' => e = .returned (.bool rt) ∧ Below W.heap.size W w') := Lib.hid (fun W => by rw [hrt]; exact mright_any ⟨ph, ac, r0, r1, w0, w1, p0, p1, dl, gn, sw, fl⟩ W)
  have HC0 : Hid (rt = true → ∀ W, Calls Try.prog 11 #[.agg (stC ⟨ph, ac, r0, r1, w0, w1, p0, p1, dl, gn, sw, fl⟩), .agg (vwC v), .int .i64 n] W fun e w' => e = .returned (.tuple #[.int .i64 x.1, .agg (recC x.2)]) ∧ Below W.heap.size W w') := Lib.hid (fun h W => by rw [hx]; exact hp.next ⟨ph, ac, r0, r1, w0, w1, p0, p1, dl, gn, sw, fl⟩ v n W (by rw [← hrt]; exact h) hv hn)
  have HC1 : Hid (rt = true → ∀ W, Calls Try.prog 11 #[.agg (stC ⟨ph, ac, r0, r1, w0, w1, p0, p1, dl, gn, sw, fl⟩), .agg (vwC v), .int .i64 m] W fun e w' => e = .returned (.tuple #[.int .i64 y.1, .agg (recC y.2)]) ∧ Below W.heap.size W w') := Lib.hid (fun h W => by rw [hy]; exact hp.next ⟨ph, ac, r0, r1, w0, w1, p0, p1, dl, gn, sw, fl⟩ v m W (by rw [← hrt]; exact h) hv hm)
  have hw : x.1 = y.1 ∨ (ph = 5 ∧ x.1 = 0 ∧ y.1 = 6) := by rw [hx, hy]; exact time_x ph sw gn dl (fullS ⟨ph, ac, r0, r1, w0, w1, p0, p1, dl, gn, sw, fl⟩ v (1 - ac)) (lessI n fl) (lessI m fl) (less_mono (by omega))
  obtain ⟨cs, hcs⟩ : ∃ c, c = stC ⟨ph, ac, r0, r1, w0, w1, p0, p1, dl, gn, sw, fl⟩ := ⟨_, rfl⟩
  have HE_cs := Lib.hid hcs
  have HZ_cs : Hid (cs.size = 12) := Lib.hid (by rw [hcs]; rfl)
  have H1_cs : Hid (cs.all (·.oneCell') = true) := Lib.hid (by rw [hcs]; exact stC_one _)
  obtain ⟨vs, hvs⟩ : ∃ c, c = vwC v := ⟨_, rfl⟩
  have HE_vs := Lib.hid hvs
  have HZ_vs : Hid (vs.size = 4) := Lib.hid (by rw [hvs]; rfl)
  have H1_vs : Hid (vs.all (·.oneCell') = true) := Lib.hid (by rw [hvs]; exact vwC_one _)
  obtain ⟨rx, hrx⟩ : ∃ c, c = recC x.2 := ⟨_, rfl⟩
  have HE_rx := Lib.hid hrx
  have HZ_rx : Hid (rx.size = 19) := Lib.hid (by rw [hrx]; rfl)
  have H1_rx : Hid (rx.all (·.oneCell') = true) := Lib.hid (by rw [hrx]; exact recC_one _)
  obtain ⟨ry, hry⟩ : ∃ c, c = recC y.2 := ⟨_, rfl⟩
  have HE_ry := Lib.hid hry
  have HZ_ry : Hid (ry.size = 19) := Lib.hid (by rw [hry]; rfl)
  have H1_ry : Hid (ry.all (·.oneCell') = true) := Lib.hid (by rw [hry]; exact recC_one _)
  obtain ⟨a, ha⟩ : ∃ a, a = x.1 := ⟨_, rfl⟩
  obtain ⟨b, hb⟩ : ∃ a, a = y.1 := ⟨_, rfl⟩
  rw [← ha, ← hb] at hw
  rw [← ha] at HC0
  rw [← hb] at HC1
  have HWX := Lib.hid hw
  rw [← hcs] at HMR HC0 HC1
  rw [← hvs] at HC0 HC1
  rw [← hrx] at HC0
  rw [← hry] at HC1
  unfold stV vwV
  rw [← hcs, ← hvs]
  have t1 : ¬ m < n := by omega
  have t2 : n ≤ m := by omega
  have t3 : ¬ m ≤ n := by omega
  clear hcs hvs hrx hry ha hb hp hrt hx hy hv hs hw hn hm
  go_enter Try.func8, Try.ntmps8
  go_upto_region 1 with (fail)
  refine name_w (fun W => Rw W w.heap.size cs 25 ∧ Rw W (w.heap.size + 1) vs 27 ∧ Rw W (w.heap.size + 1 + 1) #[.int .i64 n, .int .i64 m] 22 ∧ Below w.heap.size w W) (rows3 w cs vs #[.int .i64 n, .int .i64 m]) ?_
  rintro u0 ⟨h0, h1, h2, h3⟩
  have R_A_0 := Lib.hid h0
  have R_B_0 := Lib.hid h1
  have R_P2_0 := Lib.hid h2
  have BT0 := Lib.hid h3
  clear h0 h1 h2 h3
  go_wp2_with fail
  refine (HAW.out _).mono ?_
  rintro e u1 ⟨rfl, hb⟩
  have R_A_1 := Lib.hid (R_A_0.out.under hb R_A_0.out.lt)
  have R_B_1 := Lib.hid (R_B_0.out.under hb R_B_0.out.lt)
  have R_P2_1 := Lib.hid (R_P2_0.out.under hb R_P2_0.out.lt)
  have BT1 := Lib.hid (BT0.out.trans (hb.mono BT0.out.size))
  clear hb BT0 R_A_0 R_B_0 R_P2_0
  go_wp2_with (first | (refine wpList_load_any (by rfl) 25 (.tmp 3) rfl w.heap.size rfl 25 cs (0, 0) _ R_A_1.out Try.underlying25 rfl (by rw [HZ_cs.out]; exact i12) ?_))
  refine (HMR.out _).mono ?_
  rintro e u2 ⟨rfl, hb⟩
  have R_A_2 := Lib.hid (R_A_1.out.under hb R_A_1.out.lt)
  have R_B_2 := Lib.hid (R_B_1.out.under hb R_B_1.out.lt)
  have R_P2_2 := Lib.hid (R_P2_1.out.under hb R_P2_1.out.lt)
  have BT2 := Lib.hid (BT1.out.trans (hb.mono BT1.out.size))
  clear hb BT1 R_A_1 R_B_1 R_P2_1
  clear HMR
  cases rt with
  | false =>
    clear HC0 HC1
    go_wp2_with fail
    refine (HAW.out _).mono ?_
    rintro e u3 ⟨rfl, hb⟩
    have R_A_3 := Lib.hid (R_A_2.out.under hb R_A_2.out.lt)
    have R_B_3 := Lib.hid (R_B_2.out.under hb R_B_2.out.lt)
    have R_P2_3 := Lib.hid (R_P2_2.out.under hb R_P2_2.out.lt)
    have BT3 := Lib.hid (BT2.out.trans (hb.mono BT2.out.size))
    clear hb BT2 R_A_2 R_B_2 R_P2_2
    go_wp2_with fail
    go_ret
    exact ⟨rfl, BT3.out⟩
  | true =>
    have HD0 := Lib.hid (HC0.out rfl)
    have HD1 := Lib.hid (HC1.out rfl)
    clear HC0 HC1
    have m0 : u2.cell? ⟨(w.heap.size + 1 + 1), 0, none⟩ = some (.int .i64 n) := by rw [R_P2_2.out.cell 0]; rfl
    have m1 : u2.cell? ⟨(w.heap.size + 1 + 1), 1, none⟩ = some (.int .i64 m) := by rw [R_P2_2.out.cell 1]; rfl
    go_wp2_with (first | (refine wpList_load_any (by rfl) 25 (.tmp 3) rfl w.heap.size rfl 25 cs (0, 0) _ R_A_2.out Try.underlying25 rfl (by rw [HZ_cs.out]; exact i12) ?_) | (refine wpList_load_any (by rfl) 27 (.tmp 4) rfl (w.heap.size + 1) rfl 27 vs (0, 0) _ R_B_2.out Try.underlying27 rfl (by rw [HZ_vs.out]; exact iv4) ?_))
    refine (HD0.out _).mono ?_
    rintro e u3 ⟨rfl, hb⟩
    have R_A_3 := Lib.hid (R_A_2.out.under hb R_A_2.out.lt)
    have R_B_3 := Lib.hid (R_B_2.out.under hb R_B_2.out.lt)
    have R_P2_3 := Lib.hid (R_P2_2.out.under hb R_P2_2.out.lt)
    have BT3 := Lib.hid (BT2.out.trans (hb.mono BT2.out.size))
    clear hb BT2 R_A_2 R_B_2 R_P2_2
    clear HD0 m0 m1
    go_upto_region 4 with (first | (refine wpList_plain rfl fun _ hK => wp_store_row 31 (.tmp 8) (.tmp 29) rfl u3.heap.size rx rfl rfl 31 _ (Rw.new u3 _ 31) (by rw [HZ_rx.out]; exact i19) (by rw [HZ_rx.out]; rfl) (H1_rx.out) (hK _ _ ?_); clear hK))
    obtain ⟨Q, hY⟩ : ∃ X, X = u3.heap.size := ⟨_, rfl⟩
    rw [← hY]
    refine name_w (fun W => Rw W w.heap.size cs 25 ∧ Rw W (w.heap.size + 1) vs 27 ∧ Rw W (w.heap.size + 1 + 1) #[.int .i64 n, .int .i64 m] 22 ∧ Rw W Q rx 31 ∧ Below w.heap.size w W) ?_ ?_
    · have bb := below_setRow ((Below.refl u3.heap.size u3).alloc (Nat.le_refl _) (.cells (recC (rcK 0 0)) 31)) (Nat.le_refl _) (b := u3.heap.size) rx
      rw [hY]
      exact ⟨R_A_3.out.under bb R_A_3.out.lt, R_B_3.out.under bb R_B_3.out.lt, R_P2_3.out.under bb R_P2_3.out.lt, (Rw.new u3 _ 31).set rx, BT3.out.trans (bb.mono BT3.out.size)⟩
    clear hY BT3 R_A_3 R_B_3 R_P2_3
    rintro u4 ⟨h0, h1, h2, h3, h4⟩
    have R_A_4 := Lib.hid h0
    have R_B_4 := Lib.hid h1
    have R_P2_4 := Lib.hid h2
    have R_Q_4 := Lib.hid h3
    have BT4 := Lib.hid h4
    clear h0 h1 h2 h3 h4
    have m0 : u4.cell? ⟨(w.heap.size + 1 + 1), 0, none⟩ = some (.int .i64 n) := by rw [R_P2_4.out.cell 0]; rfl
    have m1 : u4.cell? ⟨(w.heap.size + 1 + 1), 1, none⟩ = some (.int .i64 m) := by rw [R_P2_4.out.cell 1]; rfl
    go_wp2_with (first | (refine wpList_load_any (by rfl) 25 (.tmp 3) rfl w.heap.size rfl 25 cs (0, 0) _ R_A_4.out Try.underlying25 rfl (by rw [HZ_cs.out]; exact i12) ?_) | (refine wpList_load_any (by rfl) 27 (.tmp 4) rfl (w.heap.size + 1) rfl 27 vs (0, 0) _ R_B_4.out Try.underlying27 rfl (by rw [HZ_vs.out]; exact iv4) ?_))
    refine (HD1.out _).mono ?_
    rintro e u5 ⟨rfl, hb⟩
    have R_A_5 := Lib.hid (R_A_4.out.under hb R_A_4.out.lt)
    have R_B_5 := Lib.hid (R_B_4.out.under hb R_B_4.out.lt)
    have R_P2_5 := Lib.hid (R_P2_4.out.under hb R_P2_4.out.lt)
    have R_Q_5 := Lib.hid (R_Q_4.out.under hb R_Q_4.out.lt)
    have BT5 := Lib.hid (BT4.out.trans (hb.mono BT4.out.size))
    clear hb BT4 R_A_4 R_B_4 R_P2_4 R_Q_4
    clear HD1 m0 m1
    go_upto_region 5 with (first | (refine wpList_plain rfl fun _ hK => wp_store_row 31 (.tmp 10) (.tmp 40) rfl u5.heap.size ry rfl rfl 31 _ (Rw.new u5 _ 31) (by rw [HZ_ry.out]; exact i19) (by rw [HZ_ry.out]; rfl) (H1_ry.out) (hK _ _ ?_); clear hK))
    obtain ⟨R, hY⟩ : ∃ X, X = u5.heap.size := ⟨_, rfl⟩
    rw [← hY]
    refine name_w (fun W => Rw W w.heap.size cs 25 ∧ Rw W (w.heap.size + 1) vs 27 ∧ Rw W (w.heap.size + 1 + 1) #[.int .i64 n, .int .i64 m] 22 ∧ Rw W Q rx 31 ∧ Rw W R ry 31 ∧ Below w.heap.size w W) ?_ ?_
    · have bb := below_setRow ((Below.refl u5.heap.size u5).alloc (Nat.le_refl _) (.cells (recC (rcK 0 0)) 31)) (Nat.le_refl _) (b := u5.heap.size) ry
      rw [hY]
      exact ⟨R_A_5.out.under bb R_A_5.out.lt, R_B_5.out.under bb R_B_5.out.lt, R_P2_5.out.under bb R_P2_5.out.lt, R_Q_5.out.under bb R_Q_5.out.lt, (Rw.new u5 _ 31).set ry, BT5.out.trans (bb.mono BT5.out.size)⟩
    clear hY BT5 R_A_5 R_B_5 R_P2_5 R_Q_5
    rintro u6 ⟨h0, h1, h2, h3, h4, h5⟩
    have R_A_6 := Lib.hid h0
    have R_B_6 := Lib.hid h1
    have R_P2_6 := Lib.hid h2
    have R_Q_6 := Lib.hid h3
    have R_R_6 := Lib.hid h4
    have BT6 := Lib.hid h5
    clear h0 h1 h2 h3 h4 h5
    have m0 : u6.cell? ⟨w.heap.size, 0, none⟩ = some (.int .i64 ph) := by rw [R_A_6.out.cell 0, HE_cs.out]; rfl
    by_cases hab : a = b
    case pos =>
      have eab : (a == b) = true := by rw [hab]; exact beq_self_eq_true _
      clear hab HWX
      go_wp2
      go_ret
      exact ⟨rfl, BT6.out⟩
    obtain ⟨h5, h6, h7⟩ := HWX.out.resolve_left hab
    subst h5 h6 h7
    clear hab HWX
    go_wp2
    go_ret
    exact ⟨rfl, BT6.out⟩
set_option maxRecDepth 100000 in
set_option maxHeartbeats 8000000 in
theorem walk_gt (hp : PkgPl) (ph ac r0 r1 w0 w1 dl gn sw fl n m : Int) (p0 p1 : Bool) (v : Vw) (w : World) (hs : FitsS ⟨ph, ac, r0, r1, w0, w1, p0, p1, dl, gn, sw, fl⟩) (hv : FitsV v) (hn : Fits n) (hm : Fits m) (hlt : m < n) : Calls Try.prog 8 #[stV ⟨ph, ac, r0, r1, w0, w1, p0, p1, dl, gn, sw, fl⟩, vwV v, .agg #[.int .i64 n, .int .i64 m]] w (Holds w) := by
  have HAW : Hid (∀ W, Calls Try.prog 9 #[] W fun e w' => e = .returned (.bool true) ∧ Below W.heap.size W w') := Lib.hid (awake_any hp)
  obtain ⟨rt, hrt⟩ : ∃ b, b = rightS ⟨ph, ac, r0, r1, w0, w1, p0, p1, dl, gn, sw, fl⟩ := ⟨_, rfl⟩
  obtain ⟨x, hx⟩ : ∃ x, x = nextS ⟨ph, ac, r0, r1, w0, w1, p0, p1, dl, gn, sw, fl⟩ v m := ⟨_, rfl⟩
  obtain ⟨y, hy⟩ : ∃ x, x = nextS ⟨ph, ac, r0, r1, w0, w1, p0, p1, dl, gn, sw, fl⟩ v n := ⟨_, rfl⟩
  have HMR : Hid (∀ W, Calls Try.prog 10 #[.agg (stC ⟨ph, ac, r0, r1, w0, w1, p0, p1, dl, gn, sw, fl⟩)] W fun e w' => e = .returned (.bool rt) ∧ Below W.heap.size W w') := Lib.hid (fun W => by rw [hrt]; exact mright_any ⟨ph, ac, r0, r1, w0, w1, p0, p1, dl, gn, sw, fl⟩ W)
  have HC0 : Hid (rt = true → ∀ W, Calls Try.prog 11 #[.agg (stC ⟨ph, ac, r0, r1, w0, w1, p0, p1, dl, gn, sw, fl⟩), .agg (vwC v), .int .i64 m] W fun e w' => e = .returned (.tuple #[.int .i64 x.1, .agg (recC x.2)]) ∧ Below W.heap.size W w') := Lib.hid (fun h W => by rw [hx]; exact hp.next ⟨ph, ac, r0, r1, w0, w1, p0, p1, dl, gn, sw, fl⟩ v m W (by rw [← hrt]; exact h) hv hm)
  have HC1 : Hid (rt = true → ∀ W, Calls Try.prog 11 #[.agg (stC ⟨ph, ac, r0, r1, w0, w1, p0, p1, dl, gn, sw, fl⟩), .agg (vwC v), .int .i64 n] W fun e w' => e = .returned (.tuple #[.int .i64 y.1, .agg (recC y.2)]) ∧ Below W.heap.size W w') := Lib.hid (fun h W => by rw [hy]; exact hp.next ⟨ph, ac, r0, r1, w0, w1, p0, p1, dl, gn, sw, fl⟩ v n W (by rw [← hrt]; exact h) hv hn)
  have hw : x.1 = y.1 ∨ (ph = 5 ∧ x.1 = 0 ∧ y.1 = 6) := by rw [hx, hy]; exact time_x ph sw gn dl (fullS ⟨ph, ac, r0, r1, w0, w1, p0, p1, dl, gn, sw, fl⟩ v (1 - ac)) (lessI m fl) (lessI n fl) (less_mono (by omega))
  obtain ⟨cs, hcs⟩ : ∃ c, c = stC ⟨ph, ac, r0, r1, w0, w1, p0, p1, dl, gn, sw, fl⟩ := ⟨_, rfl⟩
  have HE_cs := Lib.hid hcs
  have HZ_cs : Hid (cs.size = 12) := Lib.hid (by rw [hcs]; rfl)
  have H1_cs : Hid (cs.all (·.oneCell') = true) := Lib.hid (by rw [hcs]; exact stC_one _)
  obtain ⟨vs, hvs⟩ : ∃ c, c = vwC v := ⟨_, rfl⟩
  have HE_vs := Lib.hid hvs
  have HZ_vs : Hid (vs.size = 4) := Lib.hid (by rw [hvs]; rfl)
  have H1_vs : Hid (vs.all (·.oneCell') = true) := Lib.hid (by rw [hvs]; exact vwC_one _)
  obtain ⟨rx, hrx⟩ : ∃ c, c = recC x.2 := ⟨_, rfl⟩
  have HE_rx := Lib.hid hrx
  have HZ_rx : Hid (rx.size = 19) := Lib.hid (by rw [hrx]; rfl)
  have H1_rx : Hid (rx.all (·.oneCell') = true) := Lib.hid (by rw [hrx]; exact recC_one _)
  obtain ⟨ry, hry⟩ : ∃ c, c = recC y.2 := ⟨_, rfl⟩
  have HE_ry := Lib.hid hry
  have HZ_ry : Hid (ry.size = 19) := Lib.hid (by rw [hry]; rfl)
  have H1_ry : Hid (ry.all (·.oneCell') = true) := Lib.hid (by rw [hry]; exact recC_one _)
  obtain ⟨a, ha⟩ : ∃ a, a = x.1 := ⟨_, rfl⟩
  obtain ⟨b, hb⟩ : ∃ a, a = y.1 := ⟨_, rfl⟩
  rw [← ha, ← hb] at hw
  rw [← ha] at HC0
  rw [← hb] at HC1
  have HWX := Lib.hid hw
  rw [← hcs] at HMR HC0 HC1
  rw [← hvs] at HC0 HC1
  rw [← hrx] at HC0
  rw [← hry] at HC1
  unfold stV vwV
  rw [← hcs, ← hvs]
  have t1 : ¬ n < m := by omega
  have t2 : m ≤ n := by omega
  have t3 : ¬ n ≤ m := by omega
  clear hcs hvs hrx hry ha hb hp hrt hx hy hv hs hw hn hm
  go_enter Try.func8, Try.ntmps8
  go_upto_region 1 with (fail)
  refine name_w (fun W => Rw W w.heap.size cs 25 ∧ Rw W (w.heap.size + 1) vs 27 ∧ Rw W (w.heap.size + 1 + 1) #[.int .i64 n, .int .i64 m] 22 ∧ Below w.heap.size w W) (rows3 w cs vs #[.int .i64 n, .int .i64 m]) ?_
  rintro u0 ⟨h0, h1, h2, h3⟩
  have R_A_0 := Lib.hid h0
  have R_B_0 := Lib.hid h1
  have R_P2_0 := Lib.hid h2
  have BT0 := Lib.hid h3
  clear h0 h1 h2 h3
  go_wp2_with fail
  refine (HAW.out _).mono ?_
  rintro e u1 ⟨rfl, hb⟩
  have R_A_1 := Lib.hid (R_A_0.out.under hb R_A_0.out.lt)
  have R_B_1 := Lib.hid (R_B_0.out.under hb R_B_0.out.lt)
  have R_P2_1 := Lib.hid (R_P2_0.out.under hb R_P2_0.out.lt)
  have BT1 := Lib.hid (BT0.out.trans (hb.mono BT0.out.size))
  clear hb BT0 R_A_0 R_B_0 R_P2_0
  go_wp2_with (first | (refine wpList_load_any (by rfl) 25 (.tmp 3) rfl w.heap.size rfl 25 cs (0, 0) _ R_A_1.out Try.underlying25 rfl (by rw [HZ_cs.out]; exact i12) ?_))
  refine (HMR.out _).mono ?_
  rintro e u2 ⟨rfl, hb⟩
  have R_A_2 := Lib.hid (R_A_1.out.under hb R_A_1.out.lt)
  have R_B_2 := Lib.hid (R_B_1.out.under hb R_B_1.out.lt)
  have R_P2_2 := Lib.hid (R_P2_1.out.under hb R_P2_1.out.lt)
  have BT2 := Lib.hid (BT1.out.trans (hb.mono BT1.out.size))
  clear hb BT1 R_A_1 R_B_1 R_P2_1
  clear HMR
  cases rt with
  | false =>
    clear HC0 HC1
    go_wp2_with fail
    refine (HAW.out _).mono ?_
    rintro e u3 ⟨rfl, hb⟩
    have R_A_3 := Lib.hid (R_A_2.out.under hb R_A_2.out.lt)
    have R_B_3 := Lib.hid (R_B_2.out.under hb R_B_2.out.lt)
    have R_P2_3 := Lib.hid (R_P2_2.out.under hb R_P2_2.out.lt)
    have BT3 := Lib.hid (BT2.out.trans (hb.mono BT2.out.size))
    clear hb BT2 R_A_2 R_B_2 R_P2_2
    go_wp2_with fail
    go_ret
    exact ⟨rfl, BT3.out⟩
  | true =>
    have HD0 := Lib.hid (HC0.out rfl)
    have HD1 := Lib.hid (HC1.out rfl)
    clear HC0 HC1
    have m0 : u2.cell? ⟨(w.heap.size + 1 + 1), 0, none⟩ = some (.int .i64 n) := by rw [R_P2_2.out.cell 0]; rfl
    have m1 : u2.cell? ⟨(w.heap.size + 1 + 1), 1, none⟩ = some (.int .i64 m) := by rw [R_P2_2.out.cell 1]; rfl
    go_wp2_with (first | (refine wpList_load_any (by rfl) 25 (.tmp 3) rfl w.heap.size rfl 25 cs (0, 0) _ R_A_2.out Try.underlying25 rfl (by rw [HZ_cs.out]; exact i12) ?_) | (refine wpList_load_any (by rfl) 27 (.tmp 4) rfl (w.heap.size + 1) rfl 27 vs (0, 0) _ R_B_2.out Try.underlying27 rfl (by rw [HZ_vs.out]; exact iv4) ?_))
    refine (HD0.out _).mono ?_
    rintro e u3 ⟨rfl, hb⟩
    have R_A_3 := Lib.hid (R_A_2.out.under hb R_A_2.out.lt)
    have R_B_3 := Lib.hid (R_B_2.out.under hb R_B_2.out.lt)
    have R_P2_3 := Lib.hid (R_P2_2.out.under hb R_P2_2.out.lt)
    have BT3 := Lib.hid (BT2.out.trans (hb.mono BT2.out.size))
    clear hb BT2 R_A_2 R_B_2 R_P2_2
    clear HD0 m0 m1
    go_upto_region 4 with (first | (refine wpList_plain rfl fun _ hK => wp_store_row 31 (.tmp 8) (.tmp 29) rfl u3.heap.size rx rfl rfl 31 _ (Rw.new u3 _ 31) (by rw [HZ_rx.out]; exact i19) (by rw [HZ_rx.out]; rfl) (H1_rx.out) (hK _ _ ?_); clear hK))
    obtain ⟨Q, hY⟩ : ∃ X, X = u3.heap.size := ⟨_, rfl⟩
    rw [← hY]
    refine name_w (fun W => Rw W w.heap.size cs 25 ∧ Rw W (w.heap.size + 1) vs 27 ∧ Rw W (w.heap.size + 1 + 1) #[.int .i64 n, .int .i64 m] 22 ∧ Rw W Q rx 31 ∧ Below w.heap.size w W) ?_ ?_
    · have bb := below_setRow ((Below.refl u3.heap.size u3).alloc (Nat.le_refl _) (.cells (recC (rcK 0 0)) 31)) (Nat.le_refl _) (b := u3.heap.size) rx
      rw [hY]
      exact ⟨R_A_3.out.under bb R_A_3.out.lt, R_B_3.out.under bb R_B_3.out.lt, R_P2_3.out.under bb R_P2_3.out.lt, (Rw.new u3 _ 31).set rx, BT3.out.trans (bb.mono BT3.out.size)⟩
    clear hY BT3 R_A_3 R_B_3 R_P2_3
    rintro u4 ⟨h0, h1, h2, h3, h4⟩
    have R_A_4 := Lib.hid h0
    have R_B_4 := Lib.hid h1
    have R_P2_4 := Lib.hid h2
    have R_Q_4 := Lib.hid h3
    have BT4 := Lib.hid h4
    clear h0 h1 h2 h3 h4
    have m0 : u4.cell? ⟨(w.heap.size + 1 + 1), 0, none⟩ = some (.int .i64 n) := by rw [R_P2_4.out.cell 0]; rfl
    have m1 : u4.cell? ⟨(w.heap.size + 1 + 1), 1, none⟩ = some (.int .i64 m) := by rw [R_P2_4.out.cell 1]; rfl
    go_wp2_with (first | (refine wpList_load_any (by rfl) 25 (.tmp 3) rfl w.heap.size rfl 25 cs (0, 0) _ R_A_4.out Try.underlying25 rfl (by rw [HZ_cs.out]; exact i12) ?_) | (refine wpList_load_any (by rfl) 27 (.tmp 4) rfl (w.heap.size + 1) rfl 27 vs (0, 0) _ R_B_4.out Try.underlying27 rfl (by rw [HZ_vs.out]; exact iv4) ?_))
    refine (HD1.out _).mono ?_
    rintro e u5 ⟨rfl, hb⟩
    have R_A_5 := Lib.hid (R_A_4.out.under hb R_A_4.out.lt)
    have R_B_5 := Lib.hid (R_B_4.out.under hb R_B_4.out.lt)
    have R_P2_5 := Lib.hid (R_P2_4.out.under hb R_P2_4.out.lt)
    have R_Q_5 := Lib.hid (R_Q_4.out.under hb R_Q_4.out.lt)
    have BT5 := Lib.hid (BT4.out.trans (hb.mono BT4.out.size))
    clear hb BT4 R_A_4 R_B_4 R_P2_4 R_Q_4
    clear HD1 m0 m1
    go_upto_region 5 with (first | (refine wpList_plain rfl fun _ hK => wp_store_row 31 (.tmp 10) (.tmp 40) rfl u5.heap.size ry rfl rfl 31 _ (Rw.new u5 _ 31) (by rw [HZ_ry.out]; exact i19) (by rw [HZ_ry.out]; rfl) (H1_ry.out) (hK _ _ ?_); clear hK))
    obtain ⟨R, hY⟩ : ∃ X, X = u5.heap.size := ⟨_, rfl⟩
    rw [← hY]
    refine name_w (fun W => Rw W w.heap.size cs 25 ∧ Rw W (w.heap.size + 1) vs 27 ∧ Rw W (w.heap.size + 1 + 1) #[.int .i64 n, .int .i64 m] 22 ∧ Rw W Q rx 31 ∧ Rw W R ry 31 ∧ Below w.heap.size w W) ?_ ?_
    · have bb := below_setRow ((Below.refl u5.heap.size u5).alloc (Nat.le_refl _) (.cells (recC (rcK 0 0)) 31)) (Nat.le_refl _) (b := u5.heap.size) ry
      rw [hY]
      exact ⟨R_A_5.out.under bb R_A_5.out.lt, R_B_5.out.under bb R_B_5.out.lt, R_P2_5.out.under bb R_P2_5.out.lt, R_Q_5.out.under bb R_Q_5.out.lt, (Rw.new u5 _ 31).set ry, BT5.out.trans (bb.mono BT5.out.size)⟩
    clear hY BT5 R_A_5 R_B_5 R_P2_5 R_Q_5
    rintro u6 ⟨h0, h1, h2, h3, h4, h5⟩
    have R_A_6 := Lib.hid h0
    have R_B_6 := Lib.hid h1
    have R_P2_6 := Lib.hid h2
    have R_Q_6 := Lib.hid h3
    have R_R_6 := Lib.hid h4
    have BT6 := Lib.hid h5
    clear h0 h1 h2 h3 h4 h5
    have m0 : u6.cell? ⟨w.heap.size, 0, none⟩ = some (.int .i64 ph) := by rw [R_A_6.out.cell 0, HE_cs.out]; rfl
    by_cases hab : a = b
    case pos =>
      have eab : (a == b) = true := by rw [hab]; exact beq_self_eq_true _
      clear hab HWX
      go_wp2
      go_ret
      exact ⟨rfl, BT6.out⟩
    obtain ⟨h5, h6, h7⟩ := HWX.out.resolve_left hab
    subst h5 h6 h7
    clear hab HWX
    go_wp2
    go_ret
    exact ⟨rfl, BT6.out⟩
set_option maxRecDepth 100000 in
set_option maxHeartbeats 8000000 in
theorem walk_eq (hp : PkgPl) (ph ac r0 r1 w0 w1 dl gn sw fl n : Int) (p0 p1 : Bool) (v : Vw) (w : World) (hs : FitsS ⟨ph, ac, r0, r1, w0, w1, p0, p1, dl, gn, sw, fl⟩) (hv : FitsV v) (hn : Fits n) : Calls Try.prog 8 #[stV ⟨ph, ac, r0, r1, w0, w1, p0, p1, dl, gn, sw, fl⟩, vwV v, .agg #[.int .i64 n, .int .i64 n]] w (Holds w) := by
  have HAW : Hid (∀ W, Calls Try.prog 9 #[] W fun e w' => e = .returned (.bool true) ∧ Below W.heap.size W w') := Lib.hid (awake_any hp)
  obtain ⟨rt, hrt⟩ : ∃ b, b = rightS ⟨ph, ac, r0, r1, w0, w1, p0, p1, dl, gn, sw, fl⟩ := ⟨_, rfl⟩
  obtain ⟨x, hx⟩ : ∃ x, x = nextS ⟨ph, ac, r0, r1, w0, w1, p0, p1, dl, gn, sw, fl⟩ v n := ⟨_, rfl⟩
  obtain ⟨y, hy⟩ : ∃ x, x = nextS ⟨ph, ac, r0, r1, w0, w1, p0, p1, dl, gn, sw, fl⟩ v n := ⟨_, rfl⟩
  have HMR : Hid (∀ W, Calls Try.prog 10 #[.agg (stC ⟨ph, ac, r0, r1, w0, w1, p0, p1, dl, gn, sw, fl⟩)] W fun e w' => e = .returned (.bool rt) ∧ Below W.heap.size W w') := Lib.hid (fun W => by rw [hrt]; exact mright_any ⟨ph, ac, r0, r1, w0, w1, p0, p1, dl, gn, sw, fl⟩ W)
  have HC0 : Hid (rt = true → ∀ W, Calls Try.prog 11 #[.agg (stC ⟨ph, ac, r0, r1, w0, w1, p0, p1, dl, gn, sw, fl⟩), .agg (vwC v), .int .i64 n] W fun e w' => e = .returned (.tuple #[.int .i64 x.1, .agg (recC x.2)]) ∧ Below W.heap.size W w') := Lib.hid (fun h W => by rw [hx]; exact hp.next ⟨ph, ac, r0, r1, w0, w1, p0, p1, dl, gn, sw, fl⟩ v n W (by rw [← hrt]; exact h) hv hn)
  have HC1 : Hid (rt = true → ∀ W, Calls Try.prog 11 #[.agg (stC ⟨ph, ac, r0, r1, w0, w1, p0, p1, dl, gn, sw, fl⟩), .agg (vwC v), .int .i64 n] W fun e w' => e = .returned (.tuple #[.int .i64 y.1, .agg (recC y.2)]) ∧ Below W.heap.size W w') := Lib.hid (fun h W => by rw [hy]; exact hp.next ⟨ph, ac, r0, r1, w0, w1, p0, p1, dl, gn, sw, fl⟩ v n W (by rw [← hrt]; exact h) hv hn)
  have hw : x.1 = y.1 ∨ (ph = 5 ∧ x.1 = 0 ∧ y.1 = 6) := by rw [hx, hy]; exact time_x ph sw gn dl (fullS ⟨ph, ac, r0, r1, w0, w1, p0, p1, dl, gn, sw, fl⟩ v (1 - ac)) (lessI n fl) (lessI n fl) (less_mono (by omega))
  obtain ⟨cs, hcs⟩ : ∃ c, c = stC ⟨ph, ac, r0, r1, w0, w1, p0, p1, dl, gn, sw, fl⟩ := ⟨_, rfl⟩
  have HE_cs := Lib.hid hcs
  have HZ_cs : Hid (cs.size = 12) := Lib.hid (by rw [hcs]; rfl)
  have H1_cs : Hid (cs.all (·.oneCell') = true) := Lib.hid (by rw [hcs]; exact stC_one _)
  obtain ⟨vs, hvs⟩ : ∃ c, c = vwC v := ⟨_, rfl⟩
  have HE_vs := Lib.hid hvs
  have HZ_vs : Hid (vs.size = 4) := Lib.hid (by rw [hvs]; rfl)
  have H1_vs : Hid (vs.all (·.oneCell') = true) := Lib.hid (by rw [hvs]; exact vwC_one _)
  obtain ⟨rx, hrx⟩ : ∃ c, c = recC x.2 := ⟨_, rfl⟩
  have HE_rx := Lib.hid hrx
  have HZ_rx : Hid (rx.size = 19) := Lib.hid (by rw [hrx]; rfl)
  have H1_rx : Hid (rx.all (·.oneCell') = true) := Lib.hid (by rw [hrx]; exact recC_one _)
  obtain ⟨ry, hry⟩ : ∃ c, c = recC y.2 := ⟨_, rfl⟩
  have HE_ry := Lib.hid hry
  have HZ_ry : Hid (ry.size = 19) := Lib.hid (by rw [hry]; rfl)
  have H1_ry : Hid (ry.all (·.oneCell') = true) := Lib.hid (by rw [hry]; exact recC_one _)
  obtain ⟨a, ha⟩ : ∃ a, a = x.1 := ⟨_, rfl⟩
  obtain ⟨b, hb⟩ : ∃ a, a = y.1 := ⟨_, rfl⟩
  rw [← ha, ← hb] at hw
  rw [← ha] at HC0
  rw [← hb] at HC1
  have HWX := Lib.hid hw
  rw [← hcs] at HMR HC0 HC1
  rw [← hvs] at HC0 HC1
  rw [← hrx] at HC0
  rw [← hry] at HC1
  unfold stV vwV
  rw [← hcs, ← hvs]

  clear hcs hvs hrx hry ha hb hp hrt hx hy hv hs hw hn
  go_enter Try.func8, Try.ntmps8
  go_upto_region 1 with (fail)
  refine name_w (fun W => Rw W w.heap.size cs 25 ∧ Rw W (w.heap.size + 1) vs 27 ∧ Rw W (w.heap.size + 1 + 1) #[.int .i64 n, .int .i64 n] 22 ∧ Below w.heap.size w W) (rows3 w cs vs #[.int .i64 n, .int .i64 n]) ?_
  rintro u0 ⟨h0, h1, h2, h3⟩
  have R_A_0 := Lib.hid h0
  have R_B_0 := Lib.hid h1
  have R_P2_0 := Lib.hid h2
  have BT0 := Lib.hid h3
  clear h0 h1 h2 h3
  go_wp2_with fail
  refine (HAW.out _).mono ?_
  rintro e u1 ⟨rfl, hb⟩
  have R_A_1 := Lib.hid (R_A_0.out.under hb R_A_0.out.lt)
  have R_B_1 := Lib.hid (R_B_0.out.under hb R_B_0.out.lt)
  have R_P2_1 := Lib.hid (R_P2_0.out.under hb R_P2_0.out.lt)
  have BT1 := Lib.hid (BT0.out.trans (hb.mono BT0.out.size))
  clear hb BT0 R_A_0 R_B_0 R_P2_0
  go_wp2_with (first | (refine wpList_load_any (by rfl) 25 (.tmp 3) rfl w.heap.size rfl 25 cs (0, 0) _ R_A_1.out Try.underlying25 rfl (by rw [HZ_cs.out]; exact i12) ?_))
  refine (HMR.out _).mono ?_
  rintro e u2 ⟨rfl, hb⟩
  have R_A_2 := Lib.hid (R_A_1.out.under hb R_A_1.out.lt)
  have R_B_2 := Lib.hid (R_B_1.out.under hb R_B_1.out.lt)
  have R_P2_2 := Lib.hid (R_P2_1.out.under hb R_P2_1.out.lt)
  have BT2 := Lib.hid (BT1.out.trans (hb.mono BT1.out.size))
  clear hb BT1 R_A_1 R_B_1 R_P2_1
  clear HMR
  cases rt with
  | false =>
    clear HC0 HC1
    go_wp2_with fail
    refine (HAW.out _).mono ?_
    rintro e u3 ⟨rfl, hb⟩
    have R_A_3 := Lib.hid (R_A_2.out.under hb R_A_2.out.lt)
    have R_B_3 := Lib.hid (R_B_2.out.under hb R_B_2.out.lt)
    have R_P2_3 := Lib.hid (R_P2_2.out.under hb R_P2_2.out.lt)
    have BT3 := Lib.hid (BT2.out.trans (hb.mono BT2.out.size))
    clear hb BT2 R_A_2 R_B_2 R_P2_2
    go_wp2_with fail
    go_ret
    exact ⟨rfl, BT3.out⟩
  | true =>
    have HD0 := Lib.hid (HC0.out rfl)
    have HD1 := Lib.hid (HC1.out rfl)
    clear HC0 HC1
    have m0 : u2.cell? ⟨(w.heap.size + 1 + 1), 0, none⟩ = some (.int .i64 n) := by rw [R_P2_2.out.cell 0]; rfl
    have m1 : u2.cell? ⟨(w.heap.size + 1 + 1), 1, none⟩ = some (.int .i64 n) := by rw [R_P2_2.out.cell 1]; rfl
    go_wp2_with (first | (refine wpList_load_any (by rfl) 25 (.tmp 3) rfl w.heap.size rfl 25 cs (0, 0) _ R_A_2.out Try.underlying25 rfl (by rw [HZ_cs.out]; exact i12) ?_) | (refine wpList_load_any (by rfl) 27 (.tmp 4) rfl (w.heap.size + 1) rfl 27 vs (0, 0) _ R_B_2.out Try.underlying27 rfl (by rw [HZ_vs.out]; exact iv4) ?_))
    refine (HD0.out _).mono ?_
    rintro e u3 ⟨rfl, hb⟩
    have R_A_3 := Lib.hid (R_A_2.out.under hb R_A_2.out.lt)
    have R_B_3 := Lib.hid (R_B_2.out.under hb R_B_2.out.lt)
    have R_P2_3 := Lib.hid (R_P2_2.out.under hb R_P2_2.out.lt)
    have BT3 := Lib.hid (BT2.out.trans (hb.mono BT2.out.size))
    clear hb BT2 R_A_2 R_B_2 R_P2_2
    clear HD0 m0 m1
    go_upto_region 4 with (first | (refine wpList_plain rfl fun _ hK => wp_store_row 31 (.tmp 8) (.tmp 29) rfl u3.heap.size rx rfl rfl 31 _ (Rw.new u3 _ 31) (by rw [HZ_rx.out]; exact i19) (by rw [HZ_rx.out]; rfl) (H1_rx.out) (hK _ _ ?_); clear hK))
    obtain ⟨Q, hY⟩ : ∃ X, X = u3.heap.size := ⟨_, rfl⟩
    rw [← hY]
    refine name_w (fun W => Rw W w.heap.size cs 25 ∧ Rw W (w.heap.size + 1) vs 27 ∧ Rw W (w.heap.size + 1 + 1) #[.int .i64 n, .int .i64 n] 22 ∧ Rw W Q rx 31 ∧ Below w.heap.size w W) ?_ ?_
    · have bb := below_setRow ((Below.refl u3.heap.size u3).alloc (Nat.le_refl _) (.cells (recC (rcK 0 0)) 31)) (Nat.le_refl _) (b := u3.heap.size) rx
      rw [hY]
      exact ⟨R_A_3.out.under bb R_A_3.out.lt, R_B_3.out.under bb R_B_3.out.lt, R_P2_3.out.under bb R_P2_3.out.lt, (Rw.new u3 _ 31).set rx, BT3.out.trans (bb.mono BT3.out.size)⟩
    clear hY BT3 R_A_3 R_B_3 R_P2_3
    rintro u4 ⟨h0, h1, h2, h3, h4⟩
    have R_A_4 := Lib.hid h0
    have R_B_4 := Lib.hid h1
    have R_P2_4 := Lib.hid h2
    have R_Q_4 := Lib.hid h3
    have BT4 := Lib.hid h4
    clear h0 h1 h2 h3 h4
    have m0 : u4.cell? ⟨(w.heap.size + 1 + 1), 0, none⟩ = some (.int .i64 n) := by rw [R_P2_4.out.cell 0]; rfl
    have m1 : u4.cell? ⟨(w.heap.size + 1 + 1), 1, none⟩ = some (.int .i64 n) := by rw [R_P2_4.out.cell 1]; rfl
    go_wp2_with (first | (refine wpList_load_any (by rfl) 25 (.tmp 3) rfl w.heap.size rfl 25 cs (0, 0) _ R_A_4.out Try.underlying25 rfl (by rw [HZ_cs.out]; exact i12) ?_) | (refine wpList_load_any (by rfl) 27 (.tmp 4) rfl (w.heap.size + 1) rfl 27 vs (0, 0) _ R_B_4.out Try.underlying27 rfl (by rw [HZ_vs.out]; exact iv4) ?_))
    refine (HD1.out _).mono ?_
    rintro e u5 ⟨rfl, hb⟩
    have R_A_5 := Lib.hid (R_A_4.out.under hb R_A_4.out.lt)
    have R_B_5 := Lib.hid (R_B_4.out.under hb R_B_4.out.lt)
    have R_P2_5 := Lib.hid (R_P2_4.out.under hb R_P2_4.out.lt)
    have R_Q_5 := Lib.hid (R_Q_4.out.under hb R_Q_4.out.lt)
    have BT5 := Lib.hid (BT4.out.trans (hb.mono BT4.out.size))
    clear hb BT4 R_A_4 R_B_4 R_P2_4 R_Q_4
    clear HD1 m0 m1
    go_upto_region 5 with (first | (refine wpList_plain rfl fun _ hK => wp_store_row 31 (.tmp 10) (.tmp 40) rfl u5.heap.size ry rfl rfl 31 _ (Rw.new u5 _ 31) (by rw [HZ_ry.out]; exact i19) (by rw [HZ_ry.out]; rfl) (H1_ry.out) (hK _ _ ?_); clear hK))
    obtain ⟨R, hY⟩ : ∃ X, X = u5.heap.size := ⟨_, rfl⟩
    rw [← hY]
    refine name_w (fun W => Rw W w.heap.size cs 25 ∧ Rw W (w.heap.size + 1) vs 27 ∧ Rw W (w.heap.size + 1 + 1) #[.int .i64 n, .int .i64 n] 22 ∧ Rw W Q rx 31 ∧ Rw W R ry 31 ∧ Below w.heap.size w W) ?_ ?_
    · have bb := below_setRow ((Below.refl u5.heap.size u5).alloc (Nat.le_refl _) (.cells (recC (rcK 0 0)) 31)) (Nat.le_refl _) (b := u5.heap.size) ry
      rw [hY]
      exact ⟨R_A_5.out.under bb R_A_5.out.lt, R_B_5.out.under bb R_B_5.out.lt, R_P2_5.out.under bb R_P2_5.out.lt, R_Q_5.out.under bb R_Q_5.out.lt, (Rw.new u5 _ 31).set ry, BT5.out.trans (bb.mono BT5.out.size)⟩
    clear hY BT5 R_A_5 R_B_5 R_P2_5 R_Q_5
    rintro u6 ⟨h0, h1, h2, h3, h4, h5⟩
    have R_A_6 := Lib.hid h0
    have R_B_6 := Lib.hid h1
    have R_P2_6 := Lib.hid h2
    have R_Q_6 := Lib.hid h3
    have R_R_6 := Lib.hid h4
    have BT6 := Lib.hid h5
    clear h0 h1 h2 h3 h4 h5
    have m0 : u6.cell? ⟨w.heap.size, 0, none⟩ = some (.int .i64 ph) := by rw [R_A_6.out.cell 0, HE_cs.out]; rfl
    by_cases hab : a = b
    case pos =>
      have eab : (a == b) = true := by rw [hab]; exact beq_self_eq_true _
      clear hab HWX
      go_wp2
      go_ret
      exact ⟨rfl, BT6.out⟩
    obtain ⟨h5, h6, h7⟩ := HWX.out.resolve_left hab
    subst h5 h6 h7
    clear hab HWX
    go_wp2
    go_ret
    exact ⟨rfl, BT6.out⟩
theorem walk (hp : PkgPl) (s : St) (v : Vw) (n m : Int) (w : World) (hs : FitsS s) (hv : FitsV v) (hn : Fits n) (hm : Fits m) : Calls Try.prog 8 #[stV s, vwV v, .agg #[.int .i64 n, .int .i64 m]] w (Holds w) := by
  obtain ⟨ph, ac, r0, r1, w0, w1, p0, p1, dl, gn, sw, fl⟩ := s
  by_cases h : n < m
  · exact walk_lt hp ph ac r0 r1 w0 w1 dl gn sw fl n m p0 p1 v w hs hv hn hm h
  by_cases h2 : m < n
  · exact walk_gt hp ph ac r0 r1 w0 w1 dl gn sw fl n m p0 p1 v w hs hv hn hm h2
  obtain rfl : n = m := by omega
  exact walk_eq hp ph ac r0 r1 w0 w1 dl gn sw fl n p0 p1 v w hs hv hn
end Go.Proofs.Ytmodacieflcheaa.planTime
