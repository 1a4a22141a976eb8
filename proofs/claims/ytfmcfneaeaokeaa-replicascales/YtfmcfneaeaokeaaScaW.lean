/-
  switchback's ReplicaScales: fewer wanted are the first ones, as they were; more wanted are these, and others that are not ready. For every input the law returns true, and each argument reads afterwards as it read before. No condition beside the row's own.
-/
import Derived.Test.YtfmcfneaeaokeaaScaG
import Derived.Deep.LoopGhost
import Derived.Deep.Cut
import Derived.Deep.QuietTactic
import Derived.BigQuiet
namespace Go.Proofs.Ytfmcfneaeaokeaa.replicaScales
open Go.Proofs.Ytfmcfneaeaokeaa
open Go.ChangeShapes Go.WideShapes Go.ChangeAt Go.RowKit
set_option linter.unusedVariables false

set_option maxRecDepth 100000 in
set_option maxHeartbeats 4000000 in
theorem out_len {R : World → Nat → List Bool → Prop} (hp : Pkg R) (A : Option Addr) (c : Nat) (xs : List Int) (p q : Int) (w : World) (h : 300 < xs.length) : Calls Try.prog 5 #[.slice A xs.length c, .agg #[.int .i64 p, .int .i64 q]] w (Holds w) := by
  have HK := Lib.hid hp
  have n3 : decide (300 < (xs.length : Int)) = true := by simp; omega
  have n4 : decide (300 < xs.length) = true := by simp; omega
  clear hp h
  go_enter Try.func5, Try.ntmps5
  go_upto_region 1 with (fail)
  obtain ⟨T, hT⟩ : ∃ X, X = w.heap.size := ⟨_, rfl⟩
  rw [← hT]
  refine name_w (fun W => Arr W T p q ∧ Below w.heap.size w W) ?_ ?_
  · rw [hT]
    exact ⟨heap_alloc_new w _, below_alloc _ _⟩
  clear hT
  rintro w0 ⟨h1, h2⟩
  have HA0 := Lib.hid h1
  have HB0 := Lib.hid h2
  clear h1 h2
  go_wp2_with fail
  refine (HK.out.new w0).mono ?_
  rintro e w1 ⟨b, hb, rfl, hr, hbl⟩
  have H1 : Hid (PS R w w1 b []) := Lib.hid ⟨hr, HB0.out.trans (hbl.mono HB0.out.size), Nat.le_trans HB0.out.size hb⟩
  have HA1 := Lib.hid (HA0.out.below hbl)
  clear hb hr hbl HA0 HB0
  go_wp2_with fail
  refine (awake_any HK.out _).mono ?_
  rintro e w2 ⟨rfl, hb⟩
  have H2 := Lib.hid (H1.out.keep HK.out hb)
  have HA2 := Lib.hid (HA1.out.below hb)
  clear hb H1 HA1
  go_wp2_with fail
  refine (awake_any HK.out _).mono ?_
  rintro e w3 ⟨rfl, hb⟩
  have H3 := Lib.hid (H2.out.keep HK.out hb)
  clear hb
  go_wp2
  go_ret
  exact ⟨rfl, H3.out.low⟩
set_option maxRecDepth 100000 in
set_option maxHeartbeats 4000000 in
theorem inside {R : World → Nat → List Bool → Prop} (hp : Pkg R) (A : Option Addr) (c : Nat) (xs : List Int) (p q : Int) (w : World) (hx : IntsI w (.slice A xs.length c) xs) (hf : ∀ x ∈ xs, Fits x) (h : xs.length ≤ 300) : Calls Try.prog 5 #[.slice A xs.length c, .agg #[.int .i64 p, .int .i64 q]] w (Holds w) := by
  have HK := Lib.hid hp
  have HI := Lib.hid hx
  have HFA := Lib.hid hf
  have HLO := Lib.hid h
  have n3 : decide (300 < (xs.length : Int)) = false := by simp; omega
  have n4 : decide (300 < xs.length) = false := by simp; omega
  have hmm := @run_makeMap Try.prog
  clear hp hx hf h
  go_enter Try.func5, Try.ntmps5
  go_upto_region 1 with (fail)
  obtain ⟨T, hT⟩ : ∃ X, X = w.heap.size := ⟨_, rfl⟩
  rw [← hT]
  refine name_w (fun W => Arr W T p q ∧ Below w.heap.size w W) ?_ ?_
  · rw [hT]
    exact ⟨heap_alloc_new w _, below_alloc _ _⟩
  clear hT
  rintro w0 ⟨h1, h2⟩
  have HA0 := Lib.hid h1
  have HB0 := Lib.hid h2
  clear h1 h2
  go_wp2_with fail
  refine (HK.out.new w0).mono ?_
  rintro e w1 ⟨b, hb, rfl, hr, hbl⟩
  have H1 : Hid (PS R w w1 b []) := Lib.hid ⟨hr, HB0.out.trans (hbl.mono HB0.out.size), Nat.le_trans HB0.out.size hb⟩
  have HA1 := Lib.hid (HA0.out.below hbl)
  clear hb hr hbl HA0 HB0
  go_wp2_with fail
  refine (awake_any HK.out _).mono ?_
  rintro e w2 ⟨rfl, hb⟩
  have H2 := Lib.hid (H1.out.keep HK.out hb)
  have HA2 := Lib.hid (HA1.out.below hb)
  clear hb H1 HA1
  go_wp2_with fail
  refine (ps_scale HK.out 32 H2.out).mono ?_
  rintro e w3 ⟨rfl, h, hb⟩
  rw [show scaleL [] 32 = List.replicate 32 false from scale_nil 32 (by omega)] at h
  have H3 := Lib.hid h
  have HA3 := Lib.hid (HA2.out.but HK.out H2.out.r hb)
  clear h hb H2 HA2 n3 n4
  go_upto_region 6 with (fail)
  obtain ⟨m, hm⟩ : ∃ X, X = w3.heap.size := ⟨_, rfl⟩
  rw [← hm]
  refine name_w (fun W => PS R w W b (List.replicate 32 false) ∧ MapB W m 0 (gOf (List.replicate 32 false)) (cntL (List.replicate 32 false)) ∧ Arr W T p q) ?_ ?_
  · rw [hm, gOf_zero, cnt_zero]
    exact ⟨H3.out.keep HK.out (below_alloc _ _), mapB_new w3, HA3.out.below (below_alloc _ _)⟩
  have HML : Hid (w.heap.size ≤ m) := Lib.hid (by rw [hm]; exact H3.out.low.size)
  clear hm H3 HA3
  rintro w4 ⟨h1, h2, h3⟩
  have HP4 := Lib.hid h1
  have HM4 := Lib.hid h2
  have HA4 := Lib.hid h3
  clear h1 h2 h3 hmm
  go_wp2
  go_loopg [30] xs.length (fun gg iv wr => ∃ (k : Nat) (l : List Bool), Hid (gg = xs.length - k) ∧ k ≤ xs.length ∧ iv = .int .i64 (k : Int) ∧ Hid (l.length = 32) ∧ Hid (PS R w wr b l) ∧ Hid (MapB wr m k (gOf l) (cntL l)) ∧ Hid (Arr wr T p q))
  case atStart => exact ⟨0, _, Lib.hid rfl, Nat.zero_le _, rfl, Lib.hid (by simp), HP4, HM4, HA4⟩
  case round =>
    obtain ⟨k, l, HGG, hk, rfl, HLN, HP, HM, HA⟩ := hrel
    clear HP4 HM4 HA4
    have hk9 : k ≤ 300 := by have := HLO.out; omega
    by_cases hlt : k < xs.length
    case neg =>
      have el : decide ((k : Int) < (xs.length : Int)) = false := by simpa using hlt
      have en : decide (k < xs.length) = false := decide_eq_false hlt
      have k0 := HA.out.c0
      clear hlt
      go_wp2_with fail
      refine (ps_scale HK.out p HP.out).mono ?_
      rintro e w5 ⟨rfl, h, hb⟩
      have HM5 := Lib.hid (HM.out.but HK.out HP.out.r hb)
      have HA5 := Lib.hid (HA.out.but HK.out HP.out.r hb)
      have HP5 := Lib.hid h
      have k1 := HA5.out.c1
      clear h hb k0 HM HA HP
      go_wp2_with fail
      refine (ps_scale HK.out q HP5.out).mono ?_
      rintro e w6 ⟨rfl, h, hb⟩
      have HM6 := Lib.hid (HM5.out.but HK.out HP5.out.r hb)
      have HA6 := Lib.hid (HA5.out.but HK.out HP5.out.r hb)
      have HP6 := Lib.hid h
      have k0 := HA6.out.c0
      clear h hb k1 HM5 HA5 HP5
      have k1 := HA6.out.c1
      obtain ⟨L, hL⟩ : ∃ L, L = clampN (min p q) := ⟨_, rfl⟩
      obtain ⟨m1, hm1⟩ : ∃ x, x = (if q < p then q else p) := ⟨_, rfl⟩
      obtain ⟨m2, hm2⟩ : ∃ x, x = (if m1 < 0 then 0 else m1) := ⟨_, rfl⟩
      have E1 := hm1.symm
      have E2 := hm2.symm
      have E3 : (if (32 : Int) < m2 then 32 else m2) = (L : Int) := (by
        have a1 : m1 = min p q := by rw [hm1]; split <;> omega
        have a2 : m2 = max (min p q) 0 := by rw [hm2, a1]; split <;> omega
        rw [hL, a2]
        unfold clampN
        split <;> omega)
      have HLL := Lib.hid hL
      have hL32 : L ≤ 32 := by rw [hL]; exact clampN_le _
      clear hL hm1 hm2
      go_upto_region 15 with (fail)
      clear E1 E2 E3 k0 k1
      go_wp2
      go_loopg [10, 56] L (fun gg nv iv wr => ∃ i : Nat, Hid (gg = L - i) ∧ i ≤ L ∧ nv = .int .i64 (cntL (l.take i) : Int) ∧ iv = .int .i64 (i : Int) ∧ Hid (PS R w wr b (scaleL (scaleL l p) q)) ∧ Hid (MapB wr m k (gOf l) (cntL l)) ∧ Hid (Arr wr T p q))
      case atStart => exact ⟨0, Lib.hid rfl, Nat.zero_le _, rfl, rfl, HP6, HM6, HA6⟩
      case round =>
        obtain ⟨i, HG2, hi, rfl, rfl, HP, HM, HA⟩ := hrel
        clear HP6 HM6 HA6
        by_cases hil : i < L
        case pos =>
          have il : decide ((i : Int) < (L : Int)) = true := by simpa using hil
          have iln : decide (i < L) = true := decide_eq_true hil
          have look := HM.out.look (i := (i : Int)) (by unfold Fits; omega)
          have hs := cnt_take_succ l i (by have := HLN.out; omega)
          rw [gOf_at (by have := HLN.out; omega)] at look
          obtain ⟨x, hx⟩ : ∃ x, x = l.getD i false := ⟨_, rfl⟩
          obtain ⟨cc, hcc⟩ : ∃ x, x = cntL (l.take i) := ⟨_, rfl⟩
          have hc32 : cc ≤ 32 := by rw [hcc]; exact Nat.le_trans (cnt_le _) (by rw [List.length_take]; omega)
          rw [← hx] at look hs
          rw [← hcc] at hs ⊢
          have HIL := Lib.hid hil
          clear hx hcc hil
          cases x with
          | true =>
            have HS := Lib.hid hs
            clear hs
            go_wp2
            go_roundg (L - (i + 1))
            case measure => have := HG2.out; have := HIL.out; omega
            case rel => exact ⟨i + 1, Lib.hid rfl, HIL.out, by rw [HS.out]; go_num, by go_num, HP, HM, HA⟩
          | false =>
            have HS := Lib.hid hs
            clear hs
            go_wp2
            go_roundg (L - (i + 1))
            case measure => have := HG2.out; have := HIL.out; omega
            case rel => exact ⟨i + 1, Lib.hid rfl, HIL.out, by rw [HS.out]; rfl, by go_num, HP, HM, HA⟩
        have HIE : Hid (i = L) := Lib.hid (by omega)
        have il : decide ((i : Int) < (L : Int)) = false := by simpa using hil
        have iln : decide (i < L) = false := decide_eq_false hil
        clear hil
        rw [HIE.out]
        by_cases hq0 : q < 0
        case pos =>
          have HQ : Hid ((clampN q : Int) = 0) := Lib.hid (by unfold clampN; omega)
          have k1 := HA.out.c1
          have HW1 : Hid (∀ n, Calls Try.prog 14 #[.pointer (some ⟨b, 0, none⟩)] (wr.drewN n) fun e w' => e = .returned (.int .i64 0) ∧ ∃ m, w' = wr.drewN m) := Lib.hid (fun n => by
            have h5 := want_q HK.out HP.out n
            rw [scaleL_len, HQ.out] at h5
            exact h5)
          have HW2 : Hid (∀ n, Calls Try.prog 15 #[.pointer (some ⟨b, 0, none⟩)] (wr.drewN n) fun e w' => e = .returned (.int .i64 (cntL (l.take L) : Int)) ∧ ∃ m, w' = wr.drewN m) := Lib.hid (fun n => by
            have h5 := count_q HK.out HP.out n
            rw [cnt_two, ← HLL.out] at h5
            exact h5)
          obtain ⟨cc, hcc⟩ : ∃ x, x = cntL (l.take L) := ⟨_, rfl⟩
          rw [← hcc] at HW2
          rw [← hcc]
          have HZ := Lib.hid HP.out.low
          clear hcc HQ HP HM HA HLL
          go_wp2
          go_quiet (first | (go_at_call 14; exact HW1.out _) | (go_at_call 15; exact HW2.out _))
          go_wp2
          go_ret
          exact ⟨rfl, HZ.out.trans ((below_drewN _ _).mono HZ.out.size)⟩
        by_cases hq1 : 32 < q
        case pos =>
          have HQ : Hid ((clampN q : Int) = 32) := Lib.hid (by unfold clampN; omega)
          have k1 := HA.out.c1
          have HW1 : Hid (∀ n, Calls Try.prog 14 #[.pointer (some ⟨b, 0, none⟩)] (wr.drewN n) fun e w' => e = .returned (.int .i64 32) ∧ ∃ m, w' = wr.drewN m) := Lib.hid (fun n => by
            have h5 := want_q HK.out HP.out n
            rw [scaleL_len, HQ.out] at h5
            exact h5)
          have HW2 : Hid (∀ n, Calls Try.prog 15 #[.pointer (some ⟨b, 0, none⟩)] (wr.drewN n) fun e w' => e = .returned (.int .i64 (cntL (l.take L) : Int)) ∧ ∃ m, w' = wr.drewN m) := Lib.hid (fun n => by
            have h5 := count_q HK.out HP.out n
            rw [cnt_two, ← HLL.out] at h5
            exact h5)
          obtain ⟨cc, hcc⟩ : ∃ x, x = cntL (l.take L) := ⟨_, rfl⟩
          rw [← hcc] at HW2
          rw [← hcc]
          have HZ := Lib.hid HP.out.low
          clear hcc HQ HP HM HA HLL
          go_wp2
          go_quiet (first | (go_at_call 14; exact HW1.out _) | (go_at_call 15; exact HW2.out _))
          go_wp2
          go_ret
          exact ⟨rfl, HZ.out.trans ((below_drewN _ _).mono HZ.out.size)⟩
        have HQ : Hid ((clampN q : Int) = q) := Lib.hid (by unfold clampN; omega)
        have k1 := HA.out.c1
        have HW1 : Hid (∀ n, Calls Try.prog 14 #[.pointer (some ⟨b, 0, none⟩)] (wr.drewN n) fun e w' => e = .returned (.int .i64 q) ∧ ∃ m, w' = wr.drewN m) := Lib.hid (fun n => by
          have h5 := want_q HK.out HP.out n
          rw [scaleL_len, HQ.out] at h5
          exact h5)
        have HW2 : Hid (∀ n, Calls Try.prog 15 #[.pointer (some ⟨b, 0, none⟩)] (wr.drewN n) fun e w' => e = .returned (.int .i64 (cntL (l.take L) : Int)) ∧ ∃ m, w' = wr.drewN m) := Lib.hid (fun n => by
          have h5 := count_q HK.out HP.out n
          rw [cnt_two, ← HLL.out] at h5
          exact h5)
        obtain ⟨cc, hcc⟩ : ∃ x, x = cntL (l.take L) := ⟨_, rfl⟩
        rw [← hcc] at HW2
        rw [← hcc]
        have HZ := Lib.hid HP.out.low
        clear hcc HQ HP HM HA HLL
        go_wp2
        go_quiet (first | (go_at_call 14; exact HW1.out _) | (go_at_call 15; exact HW2.out _))
        go_wp2
        go_ret
        exact ⟨rfl, HZ.out.trans ((below_drewN _ _).mono HZ.out.size)⟩
    have el : decide ((k : Int) < (xs.length : Int)) = true := by simpa using hlt
    have en : decide (k < xs.length) = true := decide_eq_true hlt
    obtain ⟨B, o, hA, kx⟩ := HI.out.kth HP.out.low hlt
    subst hA
    obtain ⟨x, hx⟩ : ∃ x, x = xs[k] := ⟨_, rfl⟩
    rw [← hx] at kx
    have HFX : Hid (Fits x) := Lib.hid (by rw [hx]; exact HFA.out _ (List.getElem_mem hlt))
    have HLT := Lib.hid hlt
    clear hx
    go_wp2_with fail
    refine (ps_ready HK.out x true HP.out).mono ?_
    by_cases hW : isW l x
    case pos =>
      rw [decide_eq_true hW]
      rintro e w6 ⟨rfl, h, hb⟩
      have hM6 := HM.out.but HK.out HP.out.r hb
      have HP6 := Lib.hid h
      have HA6 := Lib.hid (HA.out.but HK.out HP.out.r hb)
      obtain ⟨w7, hrun, hM7, hg⟩ := hM6.put (by have := HLT.out; omega) HFX.out true
      rw [gOf_ready hW, cnt_gOf hW] at hM7
      have HP7 := Lib.hid (HP6.out.grown HK.out hg (hM6.ne HK.out HP6.out.r) HML.out)
      have HM7 := Lib.hid hM7
      have HA7 := Lib.hid (HA6.out.grown hM6 hg)
      have HL7 : Hid ((readyL l x true).length = 32) := Lib.hid (by rw [readyL_len]; exact HLN.out)
      clear h hb hM6 HP6 HA6 hM7 hg hW HP HM HA kx
      go_wp2
      go_roundg (xs.length - (k + 1))
      case measure => have := HGG.out; have := HLT.out; omega
      case rel => exact ⟨k + 1, readyL l x true, Lib.hid rfl, HLT.out, by go_num, HL7, HP7, HM7, HA7⟩
    rw [decide_eq_false hW]
    rintro e w6 ⟨rfl, h, hb⟩
    rw [ready_no hW] at h
    have HM6 := Lib.hid ((HM.out.but HK.out HP.out.r hb).mono (Nat.le_succ k))
    have HA6 := Lib.hid (HA.out.but HK.out HP.out.r hb)
    have HP6 := Lib.hid h
    clear h hb hW HP HM HA kx
    go_wp2
    go_roundg (xs.length - (k + 1))
    case measure => have := HGG.out; have := HLT.out; omega
    case rel => exact ⟨k + 1, l, Lib.hid rfl, HLT.out, by go_num, HLN, HP6, HM6, HA6⟩
theorem walk {R : World → Nat → List Bool → Prop} (hp : Pkg R) (v : Value) (xs : List Int) (p q : Int) (w : World) (hx : IntsI w v xs) (hf : ∀ x ∈ xs, Fits x) : Calls Try.prog 5 #[v, .agg #[.int .i64 p, .int .i64 q]] w (Holds w) := by
  obtain ⟨A, c, rfl⟩ := hx.shape
  by_cases h : xs.length ≤ 300
  · exact inside hp A c xs p q w hx hf h
  · exact out_len hp A c xs p q w (by omega)
end Go.Proofs.Ytfmcfneaeaokeaa.replicaScales
