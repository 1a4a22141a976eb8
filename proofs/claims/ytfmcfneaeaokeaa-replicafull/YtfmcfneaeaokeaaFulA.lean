/-
  switchback's ReplicaFull: the walk. For every input the law returns true, and each argument reads afterwards as it read before. No condition beside the row's own.
-/
import Derived.Test.YtfmcfneaeaokeaaGof
import Derived.Deep.LoopGhost
import Derived.Deep.Cut
namespace Go.Proofs.Ytfmcfneaeaokeaa.replicaFull
open Go.Proofs.Ytfmcfneaeaokeaa
open Go.ChangeShapes Go.WideShapes Go.ChangeAt Go.RowKit
set_option linter.unusedVariables false

set_option maxRecDepth 100000 in
set_option maxHeartbeats 4000000 in
theorem in_none {R : World → Nat → List Bool → Prop} (hp : Pkg R) (N : Nat) (off : Int) (A : Option Addr) (c : Nat) (xs : List Int) (w : World) (hx : IntsI w (.slice A xs.length c) xs) (hf : ∀ x ∈ xs, Fits x) (hN : N = 0) (h32 : N ≤ 32) (h : xs.length ≤ 300) : Calls Try.prog 4 #[.int .i64 (N : Int), .slice A xs.length c, .int .i64 off] w (Holds w) := by
  have HK := Lib.hid hp
  have HI := Lib.hid hx
  have HFA := Lib.hid hf
  have HLO := Lib.hid h
  have n1 : decide ((N : Int) < 0) = false := decide_eq_false (by omega)
  have n2 : decide (32 < (N : Int)) = false := decide_eq_false (by omega)
  have n2' : decide (32 < N) = false := decide_eq_false (by omega)
  have n3 : decide (300 < (xs.length : Int)) = false := by simp; omega
  have n4 : decide (300 < xs.length) = false := by simp; omega
  have n5 : decide (0 < (N : Int)) = false := decide_eq_false (by omega)
  have n6 : decide (0 < N) = false := decide_eq_false (by omega)
  have hmm := @run_makeMap Try.prog
  have HN := Lib.hid hN
  clear hp hx hf h hN
  go_enter Try.func4, Try.ntmps4
  go_wp2_with fail
  refine (ps_new HK.out w).mono ?_
  rintro e w1 ⟨b, rfl, h⟩
  have H1 := Lib.hid h
  clear h
  go_wp2_with fail
  refine (awake_any HK.out _).mono ?_
  rintro e w2 ⟨rfl, hb⟩
  have H2 := Lib.hid (H1.out.keep HK.out hb)
  clear hb H1
  go_wp2_with fail
  refine (ps_scale HK.out (N : Int) H2.out).mono ?_
  rintro e w3 ⟨rfl, h, hb⟩
  rw [scale_nil N h32] at h
  have H3 := Lib.hid h
  clear h hb H2 n1 n2 n2' n3 n4
  go_upto_region 6 with (fail)
  obtain ⟨m, hm⟩ : ∃ X, X = w3.heap.size := ⟨_, rfl⟩
  rw [← hm]
  refine name_w (fun W => PS R w W b (List.replicate N false) ∧ MapB W m 0 (gOf (List.replicate N false)) (cntL (List.replicate N false))) ?_ ?_
  · rw [hm, gOf_zero, cnt_zero]
    exact ⟨H3.out.keep HK.out (below_alloc _ _), mapB_new w3⟩
  have HML : Hid (w.heap.size ≤ m) := Lib.hid (by rw [hm]; exact H3.out.low.size)
  clear hm H3
  rintro w4 ⟨h1, h2⟩
  have HP4 := Lib.hid h1
  have HM4 := Lib.hid h2
  clear h1 h2 hmm
  go_wp2
  go_loopg [40] xs.length (fun gg iv wr => ∃ (k : Nat) (l : List Bool), Hid (gg = xs.length - k) ∧ k ≤ xs.length ∧ iv = .int .i64 (k : Int) ∧ Hid (l.length = N) ∧ Hid (PS R w wr b l) ∧ Hid (MapB wr m k (gOf l) (cntL l)))
  case atStart => exact ⟨0, _, Lib.hid rfl, Nat.zero_le _, rfl, Lib.hid (by simp), HP4, HM4⟩
  case round =>
    obtain ⟨k, l, HGG, hk, rfl, HLN, HP, HM⟩ := hrel
    clear HP4 HM4
    have hk9 : k ≤ 300 := by have := HLO.out; omega
    by_cases hlt : k < xs.length
    case neg =>
      have el : decide ((k : Int) < (xs.length : Int)) = false := by simpa using hlt
      have en : decide (k < xs.length) = false := decide_eq_false hlt
      have ln := HM.out.len 3
      clear hlt
      have hfz : fullL l = false := by
        cases hf : fullL l with
        | false => rfl
        | true => have := ((full_is l).1 hf).1; have := HLN.out; have := HN.out; omega
      by_cases hoff : off < 0
      case pos =>
        have HFL : Hid (fullL l = false) := Lib.hid (hfz)
        have o1 : decide (0 ≤ off) = false := decide_eq_false (by omega)
        have HW : Hid (¬ isW l off) := Lib.hid (fun h => by unfold isW at h; omega)
        clear hfz hoff
        go_wp2_with fail
        refine (ps_full HK.out HP.out).mono ?_
        rw [HFL.out]
        rintro e w5 ⟨rfl, h, q, hq⟩
        have HP5 := Lib.hid h
        have HM5 := Lib.hid (HM.out.keep (W' := w5) (by rw [hq]; simp))
        have ln := HM5.out.len 3
        clear h hq HM HP
        go_wp2_with (first | (go_at_call 15; refine (HK.out.count HP5.out.r).mono ?_; rintro e w' ⟨rfl, rfl⟩))
        refine (ps_ready HK.out off false HP5.out).mono ?_
        rw [decide_eq_false HW.out]
        rintro e w6 ⟨rfl, h, hb⟩
        have HP6 := Lib.hid h
        have HF6 : Hid (fullL (readyL l off false) = false) := Lib.hid (by rw [ready_no HW.out]; exact HFL.out)
        clear h hb HM5 ln HP5
        go_wp2_with fail
        refine (ps_full HK.out HP6.out).mono ?_
        rw [HF6.out]
        rintro e w7 ⟨rfl, h, q, hq⟩
        have HP7 := Lib.hid h
        clear h hq HP6
        go_wp2
        go_ret
        exact ⟨rfl, HP7.out.low⟩
      have HFL : Hid (fullL l = false) := Lib.hid (hfz)
      have o1 : decide (0 ≤ off) = true := decide_eq_true (by omega)
      have o2 : decide (off < (N : Int)) = false := decide_eq_false (by have := HN.out; omega)
      have HW : Hid (¬ isW l off) := Lib.hid (fun h => by have := HLN.out; have := HN.out; unfold isW at h; omega)
      clear hfz hoff
      go_wp2_with fail
      refine (ps_full HK.out HP.out).mono ?_
      rw [HFL.out]
      rintro e w5 ⟨rfl, h, q, hq⟩
      have HP5 := Lib.hid h
      have HM5 := Lib.hid (HM.out.keep (W' := w5) (by rw [hq]; simp))
      have ln := HM5.out.len 3
      clear h hq HM HP
      go_wp2_with (first | (go_at_call 15; refine (HK.out.count HP5.out.r).mono ?_; rintro e w' ⟨rfl, rfl⟩))
      refine (ps_ready HK.out off false HP5.out).mono ?_
      rw [decide_eq_false HW.out]
      rintro e w6 ⟨rfl, h, hb⟩
      have HP6 := Lib.hid h
      have HF6 : Hid (fullL (readyL l off false) = false) := Lib.hid (by rw [ready_no HW.out]; exact HFL.out)
      clear h hb HM5 ln HP5
      go_wp2_with fail
      refine (ps_full HK.out HP6.out).mono ?_
      rw [HF6.out]
      rintro e w7 ⟨rfl, h, q, hq⟩
      have HP7 := Lib.hid h
      clear h hq HP6
      go_wp2
      go_ret
      exact ⟨rfl, HP7.out.low⟩
    have el : decide ((k : Int) < (xs.length : Int)) = true := by simpa using hlt
    have en : decide (k < xs.length) = true := decide_eq_true hlt
    obtain ⟨B, o, hA, kx⟩ := HI.out.kth HP.out.low hlt
    subst hA
    obtain ⟨x, hx⟩ : ∃ x, x = xs[k] := ⟨_, rfl⟩
    rw [← hx] at kx
    have HFX : Hid (Fits x) := Lib.hid (by rw [hx]; exact HFA.out _ (List.getElem_mem hlt))
    have HLT := Lib.hid hlt
    clear hx
    have HFL : Hid (fullL l = false) := Lib.hid (by
      cases hf : fullL l with
      | false => rfl
      | true => have := ((full_is l).1 hf).1; have := HLN.out; have := HN.out; omega)
    go_wp2_with fail
    refine (ps_full HK.out HP.out).mono ?_
    rw [HFL.out]
    rintro e w5 ⟨rfl, h, q, hq⟩
    have HP5 := Lib.hid h
    have HM5 := Lib.hid (HM.out.keep (W' := w5) (by rw [hq]; simp))
    have ln := HM5.out.len 3
    clear h hq HM HP kx
    go_wp2_with fail
    refine (ps_ready HK.out x true HP5.out).mono ?_
    by_cases hW : isW l x
    case pos =>
      rw [decide_eq_true hW]
      rintro e w6 ⟨rfl, h, hb⟩
      have hM6 := HM5.out.but HK.out HP5.out.r hb
      have HP6 := Lib.hid h
      have HM6 := Lib.hid hM6
      obtain ⟨w7, hrun, hM7, hg⟩ := hM6.put (by have := HLT.out; omega) HFX.out true
      rw [gOf_ready hW, cnt_gOf hW] at hM7
      have HP7 := Lib.hid (HP6.out.grown HK.out hg (hM6.ne HK.out HP6.out.r) HML.out)
      have HM7 := Lib.hid hM7
      have HL7 : Hid ((readyL l x true).length = N) := Lib.hid (by rw [readyL_len]; exact HLN.out)
      clear h hb hM6 HM6 HP6 hM7 hg hW HP5 HM5 ln
      go_wp2
      go_roundg (xs.length - (k + 1))
      case measure => have := HGG.out; have := HLT.out; omega
      case rel => exact ⟨k + 1, readyL l x true, Lib.hid rfl, HLT.out, by go_num, HL7, HP7, HM7⟩
    rw [decide_eq_false hW]
    rintro e w6 ⟨rfl, h, hb⟩
    rw [ready_no hW] at h
    have HM6 := Lib.hid ((HM5.out.but HK.out HP5.out.r hb).mono (Nat.le_succ k))
    have HP6 := Lib.hid h
    clear h hb hW HP5 HM5 ln
    go_wp2
    go_roundg (xs.length - (k + 1))
    case measure => have := HGG.out; have := HLT.out; omega
    case rel => exact ⟨k + 1, l, Lib.hid rfl, HLT.out, by go_num, HLN, HP6, HM6⟩
end Go.Proofs.Ytfmcfneaeaokeaa.replicaFull
