/-
  switchback's ReplicaPlays: in every order of calls just the replicas are wanted, and ready, that the document says. For every input the law returns true, and each argument reads afterwards as it read before. No condition beside the row's own.
-/
import Derived.Test.YtfmcfneaeaokeaaPlaG
import Derived.Deep.LoopGhost
import Derived.Deep.Cut
import Derived.Deep.RegionHeld3
import Derived.Deep.QuietTactic
import Derived.BigQuiet
namespace Go.Proofs.Ytfmcfneaeaokeaa.replicaPlays
open Go.Proofs.Ytfmcfneaeaokeaa
open Go.ChangeShapes Go.WideShapes Go.ChangeAt Go.RowKit
set_option linter.unusedVariables false

theorem play_of {R : World → Nat → List Bool → Prop} {w W : World} {b bm A : Nat} {l m : List Bool} {kd nm : Int} {on : Bool} (h : Both R w W b bm A l m kd nm on) : PS R w W b l ∧ ∃ v, RsM W bm v m ∧ ∀ j, v.ownBlock = some j → w.heap.size ≤ j := ⟨h.ps, h.rm⟩
theorem below_drew1 (W : World) : Below W.heap.size W W.drew := ⟨rfl, rfl, rfl, Nat.le_refl _, fun _ _ => rfl⟩
set_option maxRecDepth 100000 in
set_option maxHeartbeats 4000000 in
theorem out_len {R : World → Nat → List Bool → Prop} (hp : Pkg R) (A : Option Addr) (c : Nat) (xs : List Ac) (w : World) (h : 500 < xs.length) : Calls Try.prog 3 #[.slice A xs.length c] w (Holds w) := by
  have HK := Lib.hid hp
  have n3 : decide (500 < (xs.length : Int)) = true := by simp; omega
  have n4 : decide (500 < xs.length) = true := by simp; omega
  clear hp h
  go_enter Try.func3, Try.ntmps3
  go_wp2_with fail
  refine (ps_new HK.out w).mono ?_
  rintro e w1 ⟨b0, rfl, h⟩
  have H1 := Lib.hid h
  clear h
  go_upto_region 2 with (fail)
  obtain ⟨bm, hbm⟩ : ∃ X, X = w1.heap.size := ⟨_, rfl⟩
  rw [← hbm]
  refine name_w (fun W => PS R w W b0 [] ∧ RsM W bm (.slice none 0 0) []) ?_ ?_
  · rw [hbm]
    exact ⟨H1.out.keep HK.out (below_alloc _ _), ⟨heap_alloc_new w1 _, ⟨rfl, .inl ⟨rfl, rfl⟩⟩, by simp⟩⟩
  have HBM : Hid (w.heap.size ≤ bm) := Lib.hid (by rw [hbm]; exact H1.out.low.size)
  clear hbm H1
  rintro wx ⟨h1, h2⟩
  have H1 := Lib.hid h1
  have HM1 := Lib.hid h2
  clear h1 h2
  go_wp2_with fail
  refine (awake_any HK.out _).mono ?_
  rintro e w2 ⟨rfl, hb⟩
  have H2 := Lib.hid (H1.out.keep HK.out hb)
  have HM2 := Lib.hid (HM1.out.keep hb.block)
  clear hb H1 HM1
  go_wp2_with fail
  refine (awake_any HK.out _).mono ?_
  rintro e w3 ⟨rfl, hb⟩
  have H3 := Lib.hid (H2.out.keep HK.out hb)
  clear hb
  go_wp2
  go_ret
  exact ⟨rfl, H3.out.low⟩
set_option maxRecDepth 100000 in
set_option maxHeartbeats 4000000 in
theorem inside {R : World → Nat → List Bool → Prop} (hp : Pkg R) (A0 : Option Addr) (c : Nat) (xs : List Ac) (w : World) (hx : ActsI w (.slice A0 xs.length c) xs) (h : xs.length ≤ 500) : Calls Try.prog 3 #[.slice A0 xs.length c] w (Holds w) := by
  have HK := Lib.hid hp
  have HI := Lib.hid hx
  have HLO := Lib.hid h
  have n3 : decide (500 < (xs.length : Int)) = false := by simp; omega
  have n4 : decide (500 < xs.length) = false := by simp; omega
  clear hp hx h
  go_enter Try.func3, Try.ntmps3
  go_wp2_with fail
  refine (ps_new HK.out w).mono ?_
  rintro e w1 ⟨b0, rfl, h⟩
  have H1 := Lib.hid h
  clear h
  go_upto_region 2 with (fail)
  obtain ⟨bm, hbm⟩ : ∃ X, X = w1.heap.size := ⟨_, rfl⟩
  rw [← hbm]
  refine name_w (fun W => PS R w W b0 [] ∧ RsM W bm (.slice none 0 0) []) ?_ ?_
  · rw [hbm]
    exact ⟨H1.out.keep HK.out (below_alloc _ _), ⟨heap_alloc_new w1 _, ⟨rfl, .inl ⟨rfl, rfl⟩⟩, by simp⟩⟩
  have HBM : Hid (w.heap.size ≤ bm) := Lib.hid (by rw [hbm]; exact H1.out.low.size)
  clear hbm H1
  rintro wx ⟨h1, h2⟩
  have H1 := Lib.hid h1
  have HM1 := Lib.hid h2
  clear h1 h2
  go_wp2_with fail
  refine (awake_any HK.out _).mono ?_
  rintro e w2 ⟨rfl, hb⟩
  have H2 := Lib.hid (H1.out.keep HK.out hb)
  have HM2 := Lib.hid (HM1.out.keep hb.block)
  clear hb H1 HM1
  go_wp2
  clear n3 n4
  go_loopg [3, 25] xs.length (fun gg sv iv wr => ∃ (k : Nat) (l : List Bool) (b : Nat), Hid (gg = xs.length - k) ∧ k ≤ xs.length ∧ iv = .int .i64 (k : Int) ∧ sv = .pointer (some ⟨b, 0, none⟩) ∧ Hid (PS R w wr b l ∧ ∃ v, RsM wr bm v l ∧ ∀ j, v.ownBlock = some j → w.heap.size ≤ j))
  case atStart => exact ⟨0, [], b0, Lib.hid rfl, Nat.zero_le _, rfl, rfl, Lib.hid ⟨H2.out, _, HM2.out, fun j hj => by cases hj⟩⟩
  case round =>
    obtain ⟨k, l, b, HGG, hk, rfl, rfl, HB⟩ := hrel
    clear H2 HM2
    have hk9 : k ≤ 500 := by have := HLO.out; omega
    by_cases hlt : k < xs.length
    case neg =>
      have el : decide ((k : Int) < (xs.length : Int)) = false := by simpa using hlt
      have en : decide (k < xs.length) = false := decide_eq_false hlt
      clear hlt
      go_wp2
      go_ret
      exact ⟨rfl, HB.out.1.low⟩
    have el : decide ((k : Int) < (xs.length : Int)) = true := by simpa using hlt
    have en : decide (k < xs.length) = true := decide_eq_true hlt
    obtain ⟨B, off, rfl, x0, x1, x2, hfx⟩ := HI.out.kth HB.out.1.low hlt
    clear hfx
    obtain ⟨⟨kd, nm, on⟩, hA⟩ : ∃ A, A = xs[k] := ⟨_, rfl⟩
    rw [← hA] at x0 x1 x2
    simp only at x0 x1 x2
    have HLT := Lib.hid hlt
    clear hA hlt
    go_upto_region 7 with (fail)
    obtain ⟨A, hAb⟩ : ∃ X, X = wr.heap.size := ⟨_, rfl⟩
    rw [← hAb]
    refine name_w (fun W => Both R w W b bm A l l kd nm on) ?_ ?_
    · rw [hAb]
      have bb := below_alloc wr (.cells #[.int .i64 kd, .int .i64 nm, .bool on] 31)
      obtain ⟨h1, v, h2, h3⟩ := HB.out
      exact ⟨h1.keep HK.out bb, ⟨v, h2.keep bb.block, h3⟩, HBM.out, heap_alloc_new wr _⟩
    clear hAb HB x0 x1 x2 el en HI
    rintro wa ha
    have HA := Lib.hid ha
    clear ha
    by_cases h1 : kd = 1
    case pos =>
      subst h1
      as_aux_lemma =>
        have y0 := HA.out.act.c0
        have y1 := HA.out.act.c1
        go_wp2_with fail
        refine (both_scale1 HK.out nm HA.out).mono ?_
        rintro e w7 ⟨rfl, h7⟩
        have H7 := Lib.hid h7
        clear h7 y0 y1 HA
        have y1 := H7.out.act.c1
        go_wp2_with fail
        refine (both_scale2 HK.out nm H7.out).mono ?_
        rintro e w8 ⟨rfl, h8⟩
        have HX := Lib.hid h8
        clear h8 y1 H7
        obtain ⟨v, hv1, hv2⟩ := HX.out.rm
        obtain ⟨Av, cv, rfl⟩ := hv1.own.shape
        obtain ⟨q1, hq1⟩ : ∃ x, x = (scaleL l nm).length := ⟨_, rfl⟩
        obtain ⟨q2, hq2⟩ : ∃ x, x = cntL (scaleL l nm) := ⟨_, rfl⟩
        obtain ⟨q3, hq3⟩ : ∃ x, x = fullL (scaleL l nm) := ⟨_, rfl⟩
        have k0 := hv1.c0
        rw [← hq1] at k0
        have HQ1 : Hid (∀ n, Calls Try.prog 14 #[.pointer (some ⟨b, 0, none⟩)] (w8.drewN n) fun e w' => e = .returned (.int .i64 (q1 : Int)) ∧ ∃ m, w' = w8.drewN m) := Lib.hid (fun n => by rw [hq1]; exact want_q HK.out HX.out.ps n)
        have HQ2 : Hid (∀ n, Calls Try.prog 15 #[.pointer (some ⟨b, 0, none⟩)] (w8.drewN n) fun e w' => e = .returned (.int .i64 (q2 : Int)) ∧ ∃ m, w' = w8.drewN m) := Lib.hid (fun n => by rw [hq2]; exact count_q HK.out HX.out.ps n)
        have HQ3 : Hid (∀ n, Calls Try.prog 17 #[.pointer (some ⟨b, 0, none⟩)] (w8.drewN n) fun e w' => e = .returned (.bool q3) ∧ ∃ m, w' = w8.drewN m) := Lib.hid (fun n => by rw [hq3]; exact full_q HK.out HX.out.ps n)
        have HQ4 : Hid (∀ n, Calls Try.prog 16 #[.pointer (some ⟨bm, 0, none⟩)] (w8.drewN n) fun e w' => e = .returned (.int .i64 (q2 : Int)) ∧ ∃ m, w' = w8.drewN m) := Lib.hid (fun n => by rw [hq2]; exact mcount_q bm _ _ n w8 hv1)
        have HQ5 : Hid (∀ n, Calls Try.prog 18 #[.pointer (some ⟨bm, 0, none⟩)] (w8.drewN n) fun e w' => e = .returned (.bool q3) ∧ ∃ m, w' = w8.drewN m) := Lib.hid (fun n => by rw [hq3]; exact mfull_q bm _ _ n w8 hv1)
        clear hq1 hq2 hq3 hv1 hv2
        go_wp2
        go_quiet (first | (go_at_call 14; exact HQ1.out _) | (go_at_call 15; exact HQ2.out _) | (go_at_call 17; exact HQ3.out _) | (go_at_call 16; exact HQ4.out _) | (go_at_call 18; exact HQ5.out _))
        clear k0 HQ1 HQ2 HQ3 HQ4 HQ5
        go_wp2
        go_roundg (xs.length - (k + 1))
        case measure => have := HGG.out; have := HLT.out; omega
        case rel => exact ⟨k + 1, scaleL l nm, b, Lib.hid rfl, HLT.out, by go_num, rfl, Lib.hid (play_of (HX.out.keep HK.out (below_drewN _ _)))⟩
    have e1 : (kd == 1) = false := by simpa using h1
    clear h1
    by_cases h2 : kd = 2
    case pos =>
      subst h2
      clear e1
      as_aux_lemma =>
        have y0 := HA.out.act.c0
        obtain ⟨d, hd⟩ : ∃ x, x = decide (isW l nm) := ⟨_, rfl⟩
        have HN1 : Hid (∀ V, Both R w V b bm A l l 2 nm on → Calls Try.prog 11 #[.pointer (some ⟨b, 0, none⟩), .int .i64 nm, .bool on] V fun e w' => e = .returned (.bool d) ∧ Both R w w' b bm A (readyL l nm on) l 2 nm on) := Lib.hid (fun V h => by rw [hd]; exact both_ready1 HK.out nm on h)
        have HN2 : Hid (∀ V, Both R w V b bm A (readyL l nm on) l 2 nm on → Calls Try.prog 12 #[.pointer (some ⟨bm, 0, none⟩), .int .i64 nm, .bool on] V fun e w' => e = .returned (.bool d) ∧ Both R w w' b bm A (readyL l nm on) (readyL l nm on) 2 nm on) := Lib.hid (fun V h => by rw [hd]; exact both_ready2 HK.out nm on h)
        have y1 := HA.out.act.cs
        clear hd
        go_wp2
        clear y0
        go_region_held3 (fun wx => wx.cell? ⟨A, 1, none⟩ = some (.int .i64 nm) ∧ wx.cell? ⟨A, 2, none⟩ = some (.bool on)) (first | exact y3 | exact y2 | exact y1) (first | (go_at_call 11; refine (HN1.out _ (HA.out.keep HK.out (below_drew1 _))).mono ?_; rintro e w7 ⟨rfl, h7⟩; have y2 := h7.act.cs) | (go_at_call 12; refine (HN2.out _ h7).mono ?_; rintro e w8 ⟨rfl, h8⟩; have y3 := h8.act.cs))
        have HX := Lib.hid h8
        clear h7 h8 y1 y2 y3 HN1 HN2 HA
        obtain ⟨v, hv1, hv2⟩ := HX.out.rm
        obtain ⟨Av, cv, rfl⟩ := hv1.own.shape
        obtain ⟨q1, hq1⟩ : ∃ x, x = (readyL l nm on).length := ⟨_, rfl⟩
        obtain ⟨q2, hq2⟩ : ∃ x, x = cntL (readyL l nm on) := ⟨_, rfl⟩
        obtain ⟨q3, hq3⟩ : ∃ x, x = fullL (readyL l nm on) := ⟨_, rfl⟩
        have k0 := hv1.c0
        rw [← hq1] at k0
        have HQ1 : Hid (∀ n, Calls Try.prog 14 #[.pointer (some ⟨b, 0, none⟩)] (w8.drewN n) fun e w' => e = .returned (.int .i64 (q1 : Int)) ∧ ∃ m, w' = w8.drewN m) := Lib.hid (fun n => by rw [hq1]; exact want_q HK.out HX.out.ps n)
        have HQ2 : Hid (∀ n, Calls Try.prog 15 #[.pointer (some ⟨b, 0, none⟩)] (w8.drewN n) fun e w' => e = .returned (.int .i64 (q2 : Int)) ∧ ∃ m, w' = w8.drewN m) := Lib.hid (fun n => by rw [hq2]; exact count_q HK.out HX.out.ps n)
        have HQ3 : Hid (∀ n, Calls Try.prog 17 #[.pointer (some ⟨b, 0, none⟩)] (w8.drewN n) fun e w' => e = .returned (.bool q3) ∧ ∃ m, w' = w8.drewN m) := Lib.hid (fun n => by rw [hq3]; exact full_q HK.out HX.out.ps n)
        have HQ4 : Hid (∀ n, Calls Try.prog 16 #[.pointer (some ⟨bm, 0, none⟩)] (w8.drewN n) fun e w' => e = .returned (.int .i64 (q2 : Int)) ∧ ∃ m, w' = w8.drewN m) := Lib.hid (fun n => by rw [hq2]; exact mcount_q bm _ _ n w8 hv1)
        have HQ5 : Hid (∀ n, Calls Try.prog 18 #[.pointer (some ⟨bm, 0, none⟩)] (w8.drewN n) fun e w' => e = .returned (.bool q3) ∧ ∃ m, w' = w8.drewN m) := Lib.hid (fun n => by rw [hq3]; exact mfull_q bm _ _ n w8 hv1)
        clear hq1 hq2 hq3 hv1 hv2
        go_wp2
        go_quiet (first | (go_at_call 14; exact HQ1.out _) | (go_at_call 15; exact HQ2.out _) | (go_at_call 17; exact HQ3.out _) | (go_at_call 16; exact HQ4.out _) | (go_at_call 18; exact HQ5.out _))
        clear k0 HQ1 HQ2 HQ3 HQ4 HQ5
        go_wp2
        go_roundg (xs.length - (k + 1))
        case measure => have := HGG.out; have := HLT.out; omega
        case rel => exact ⟨k + 1, readyL l nm on, b, Lib.hid rfl, HLT.out, by go_num, rfl, Lib.hid (play_of (HX.out.keep HK.out (below_drewN _ _)))⟩
    have e2 : (kd == 2) = false := by simpa using h2
    clear h2
    by_cases h3 : kd = 3
    case pos =>
      subst h3
      clear e1 e2
      as_aux_lemma =>
        have y0 := HA.out.act.c0
        go_wp2_with fail
        refine (twin_copy HK.out HA.out).mono ?_
        rintro e w4 ⟨c1, rfl, h4⟩
        have H4 := Lib.hid h4
        clear h4 y0 HA
        go_wp2_with fail
        refine (twin_scale HK.out 0 H4.out).mono ?_
        rintro e w5 ⟨rfl, h5⟩
        have H5 := Lib.hid h5
        clear h5 H4
        go_wp2_with fail
        refine (twin_scale HK.out 9 H5.out).mono ?_
        rintro e w6 ⟨rfl, h6⟩
        have H6 := Lib.hid h6
        clear h6 H5
        go_wp2_with fail
        refine (twin_ready HK.out 0 true H6.out).mono ?_
        rintro e w8 ⟨rfl, h8⟩
        have HX := Lib.hid h8.both
        clear h8 H6
        obtain ⟨v, hv1, hv2⟩ := HX.out.rm
        obtain ⟨Av, cv, rfl⟩ := hv1.own.shape
        obtain ⟨q1, hq1⟩ : ∃ x, x = (l).length := ⟨_, rfl⟩
        obtain ⟨q2, hq2⟩ : ∃ x, x = cntL (l) := ⟨_, rfl⟩
        obtain ⟨q3, hq3⟩ : ∃ x, x = fullL (l) := ⟨_, rfl⟩
        have k0 := hv1.c0
        rw [← hq1] at k0
        have HQ1 : Hid (∀ n, Calls Try.prog 14 #[.pointer (some ⟨c1, 0, none⟩)] (w8.drewN n) fun e w' => e = .returned (.int .i64 (q1 : Int)) ∧ ∃ m, w' = w8.drewN m) := Lib.hid (fun n => by rw [hq1]; exact want_q HK.out HX.out.ps n)
        have HQ2 : Hid (∀ n, Calls Try.prog 15 #[.pointer (some ⟨c1, 0, none⟩)] (w8.drewN n) fun e w' => e = .returned (.int .i64 (q2 : Int)) ∧ ∃ m, w' = w8.drewN m) := Lib.hid (fun n => by rw [hq2]; exact count_q HK.out HX.out.ps n)
        have HQ3 : Hid (∀ n, Calls Try.prog 17 #[.pointer (some ⟨c1, 0, none⟩)] (w8.drewN n) fun e w' => e = .returned (.bool q3) ∧ ∃ m, w' = w8.drewN m) := Lib.hid (fun n => by rw [hq3]; exact full_q HK.out HX.out.ps n)
        have HQ4 : Hid (∀ n, Calls Try.prog 16 #[.pointer (some ⟨bm, 0, none⟩)] (w8.drewN n) fun e w' => e = .returned (.int .i64 (q2 : Int)) ∧ ∃ m, w' = w8.drewN m) := Lib.hid (fun n => by rw [hq2]; exact mcount_q bm _ _ n w8 hv1)
        have HQ5 : Hid (∀ n, Calls Try.prog 18 #[.pointer (some ⟨bm, 0, none⟩)] (w8.drewN n) fun e w' => e = .returned (.bool q3) ∧ ∃ m, w' = w8.drewN m) := Lib.hid (fun n => by rw [hq3]; exact mfull_q bm _ _ n w8 hv1)
        clear hq1 hq2 hq3 hv1 hv2
        go_wp2
        go_quiet (first | (go_at_call 14; exact HQ1.out _) | (go_at_call 15; exact HQ2.out _) | (go_at_call 17; exact HQ3.out _) | (go_at_call 16; exact HQ4.out _) | (go_at_call 18; exact HQ5.out _))
        clear k0 HQ1 HQ2 HQ3 HQ4 HQ5
        go_wp2
        go_roundg (xs.length - (k + 1))
        case measure => have := HGG.out; have := HLT.out; omega
        case rel => exact ⟨k + 1, l, c1, Lib.hid rfl, HLT.out, by go_num, rfl, Lib.hid (play_of (HX.out.keep HK.out (below_drewN _ _)))⟩
    have e3 : (kd == 3) = false := by simpa using h3
    clear h3
    as_aux_lemma =>
      have y0 := HA.out.act.c0
      obtain ⟨w8, rfl⟩ : ∃ x, x = wa := ⟨_, rfl⟩
      have HX := HA
      clear HA
      go_wp2
      clear y0
      obtain ⟨v, hv1, hv2⟩ := HX.out.rm
      obtain ⟨Av, cv, rfl⟩ := hv1.own.shape
      obtain ⟨q1, hq1⟩ : ∃ x, x = (l).length := ⟨_, rfl⟩
      obtain ⟨q2, hq2⟩ : ∃ x, x = cntL (l) := ⟨_, rfl⟩
      obtain ⟨q3, hq3⟩ : ∃ x, x = fullL (l) := ⟨_, rfl⟩
      have k0 := hv1.c0
      rw [← hq1] at k0
      have HQ1 : Hid (∀ n, Calls Try.prog 14 #[.pointer (some ⟨b, 0, none⟩)] (w8.drewN n) fun e w' => e = .returned (.int .i64 (q1 : Int)) ∧ ∃ m, w' = w8.drewN m) := Lib.hid (fun n => by rw [hq1]; exact want_q HK.out HX.out.ps n)
      have HQ2 : Hid (∀ n, Calls Try.prog 15 #[.pointer (some ⟨b, 0, none⟩)] (w8.drewN n) fun e w' => e = .returned (.int .i64 (q2 : Int)) ∧ ∃ m, w' = w8.drewN m) := Lib.hid (fun n => by rw [hq2]; exact count_q HK.out HX.out.ps n)
      have HQ3 : Hid (∀ n, Calls Try.prog 17 #[.pointer (some ⟨b, 0, none⟩)] (w8.drewN n) fun e w' => e = .returned (.bool q3) ∧ ∃ m, w' = w8.drewN m) := Lib.hid (fun n => by rw [hq3]; exact full_q HK.out HX.out.ps n)
      have HQ4 : Hid (∀ n, Calls Try.prog 16 #[.pointer (some ⟨bm, 0, none⟩)] (w8.drewN n) fun e w' => e = .returned (.int .i64 (q2 : Int)) ∧ ∃ m, w' = w8.drewN m) := Lib.hid (fun n => by rw [hq2]; exact mcount_q bm _ _ n w8 hv1)
      have HQ5 : Hid (∀ n, Calls Try.prog 18 #[.pointer (some ⟨bm, 0, none⟩)] (w8.drewN n) fun e w' => e = .returned (.bool q3) ∧ ∃ m, w' = w8.drewN m) := Lib.hid (fun n => by rw [hq3]; exact mfull_q bm _ _ n w8 hv1)
      clear hq1 hq2 hq3 hv1 hv2
      go_quiet (first | (go_at_call 14; exact HQ1.out _) | (go_at_call 15; exact HQ2.out _) | (go_at_call 17; exact HQ3.out _) | (go_at_call 16; exact HQ4.out _) | (go_at_call 18; exact HQ5.out _))
      clear k0 HQ1 HQ2 HQ3 HQ4 HQ5
      go_wp2
      go_roundg (xs.length - (k + 1))
      case measure => have := HGG.out; have := HLT.out; omega
      case rel => exact ⟨k + 1, l, b, Lib.hid rfl, HLT.out, by go_num, rfl, Lib.hid (play_of (HX.out.keep HK.out (below_drewN _ _)))⟩
theorem walk {R : World → Nat → List Bool → Prop} (hp : Pkg R) (v : Value) (xs : List Ac) (w : World) (hx : ActsI w v xs) : Calls Try.prog 3 #[v] w (Holds w) := by
  obtain ⟨A, c, rfl⟩ := hx.shape
  by_cases h : xs.length ≤ 500
  · exact inside hp A c xs w hx h
  · exact out_len hp A c xs w (by omega)
end Go.Proofs.Ytfmcfneaeaokeaa.replicaPlays
