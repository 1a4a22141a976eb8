/-
  What package disk's Crash makes of a disk.
-/
import Derived.Test.YtooikkjgcpngdaaDiskC
namespace Go.Proofs.Ytooikkjgcpngdaa
open Go.RowKit

variable {P : Nat → Prop} {w : World} {B d f nb lb : Nat} {s : Dk} {fu : Fu} {ov : Value}

set_option maxHeartbeats 1000000 in
theorem lastKept_any (keep : Nat) (hk : keep < 18446744073709551616) (h : InvP w B P d f s fu nb lb ov) (hl : s.opn.length < 1000000) :
    Calls Try.prog 44 #[.pointer (some ⟨d, 0, none⟩), .int .u64 (keep : Int)] w fun e w' => e = .returned (.int .i64 (lastK keep s.opn.length)) ∧ w = w' := by
  have c3 := h.c3
  obtain ⟨ao, cap, rfl⟩ := h.shape
  clear h
  go_enter Try.func44, Try.ntmps44
  go_wp2
  go_loopg [5] s.opn.length (fun g i wr => ∃ q : Int, Hid (q = (g : Int) - 1) ∧ g ≤ s.opn.length ∧ i = .int .i64 q ∧ Hid (lastK keep g = lastK keep s.opn.length) ∧ w = wr)
  case atStart => exact ⟨_, Lib.hid rfl, Nat.le_refl _, rfl, Lib.hid rfl, rfl⟩
  case round =>
    obtain ⟨q, HQ, hg, rfl, HL, rfl⟩ := hrel
    rcases Nat.eq_zero_or_pos gk with h0 | h0
    · subst h0
      obtain rfl : q = -1 := by have := HQ.out; omega
      go_wp2
      go_ret
      exact ⟨by rw [← HL.out]; rfl, rfl⟩
    · obtain ⟨j, rfl⟩ : ∃ j, gk = j + 1 := ⟨gk - 1, by omega⟩
      obtain rfl : q = (j : Int) := by have := HQ.out; omega
      have HX : Hid (lastK keep (j + 1) = if bit keep j then (j : Int) else lastK keep j) := Lib.hid rfl
      cases hb : bit keep j with
      | true =>
        have HBB := Lib.hid hb
        clear hb
        go_wp2_with fail
        refine (kept_any keep j hk (by omega) _).mono ?_
        rintro e w' ⟨rfl, rfl⟩
        rw [HBB.out]
        go_wp2
        go_ret
        refine ⟨?_, rfl⟩
        rw [← HL.out, HX.out, HBB.out]
        rfl
      | false =>
        have HBB := Lib.hid hb
        clear hb
        go_wp2_with fail
        refine (kept_any keep j hk (by omega) _).mono ?_
        rintro e w' ⟨rfl, rfl⟩
        rw [HBB.out]
        go_wp2
        go_roundg j
        case measure => omega
        case rel =>
          refine ⟨_, Lib.hid rfl, by omega, by go_num, Lib.hid ?_, rfl⟩
          rw [← HL.out, HX.out, HBB.out]
          rfl

theorem step_torn {keep : Nat} {lk : Int} {t : Nat} {l : List ByteArray} {i : Nat} {p : Nat × ByteArray} (h : (i : Int) = lk) : step keep lk t l i p = l.set p.1 (torn t p.2 (l.getD p.1 nil)) := by simp [step, h]
theorem step_kept {keep : Nat} {lk : Int} {t : Nat} {l : List ByteArray} {i : Nat} {p : Nat × ByteArray} (h : (i : Int) ≠ lk) (hb : bit keep i = true) : step keep lk t l i p = l.set p.1 p.2 := by simp [step, h, hb]
theorem step_lost {keep : Nat} {lk : Int} {t : Nat} {l : List ByteArray} {i : Nat} {p : Nat × ByteArray} (h : (i : Int) ≠ lk) (hb : bit keep i = false) : step keep lk t l i p = l := by simp [step, h, hb]

set_option maxHeartbeats 4000000 in
theorem crash_any (keep : Nat) (t0 : Int) (hk : keep < 18446744073709551616) (h : InvP w B P d f s fu nb lb ov) (hgd : s.Good) (hl : s.opn.length < 1000000) :
    Calls Try.prog 21 #[.pointer (some ⟨d, 0, none⟩), .int .u64 (keep : Int), .int .i64 t0] w fun e w' => e = .returned (.tuple #[]) ∧ InvP w' B P d f (s.crash keep (cut t0 s.size)) fu.reset nb lb (.slice none 0 0) ∧ Kept P w w' := by
  have c0 := h.c0
  have c3 := h.c3
  have HI := Lib.hid h
  have HG := Lib.hid hgd
  clear h hgd
  obtain ⟨ao, cap, rfl⟩ := HI.out.shape
  obtain ⟨t, ht⟩ : ∃ t, t = cut t0 s.size := ⟨_, rfl⟩
  have hts : t ≤ s.size := by rw [ht]; exact cut_le _ _
  have HT : Hid ((t : Int) = min (max t0 0) (s.size : Int)) := Lib.hid (by rw [ht]; exact cut_int _ _)
  rw [← ht]
  clear ht
  obtain ⟨lk, hlk⟩ : ∃ lk, lk = lastK keep s.opn.length := ⟨_, rfl⟩
  have HLK := Lib.hid hlk
  clear hlk
  go_enter Try.func21, Try.ntmps21
  go_wp2_with fail
  refine (within_nat t0 0 s.size t HT.out _).mono ?_
  rintro e w' ⟨rfl, rfl⟩
  go_wp2_with fail
  refine (lastKept_any keep hk HI.out hl).mono ?_
  rintro e w' ⟨rfl, rfl⟩
  rw [← HLK.out]
  go_wp2
  clear c0 c3
  go_loopg [25] s.opn.length (fun g i wr => ∃ k : Nat, Hid (g = s.opn.length - k) ∧ k ≤ s.opn.length ∧ i = .int .i64 k ∧ Hid (InvP wr B P d f { s with last := crashTo keep lk t s.opn s.last k } fu nb lb (.slice ao s.opn.length cap)) ∧ Hid (Kept P w wr))
  case atStart => exact ⟨0, Lib.hid rfl, Nat.zero_le _, rfl, HI, Lib.hid (Kept.refl _ _)⟩
  case round =>
    obtain ⟨k, HK, hk', rfl, HR, HKr⟩ := hrel
    by_cases hlt : k < s.opn.length
    · obtain ⟨g, cap', hov, hpg⟩ := HR.out.opened (Nat.lt_of_le_of_lt (Nat.zero_le _) hlt)
      obtain ⟨rfl, rfl⟩ : ao = some ⟨g, 0, none⟩ ∧ cap = cap' := by simpa using hov
      clear hov
      obtain ⟨o1, o2⟩ := HR.out.open_cells k hlt
      obtain ⟨sec, hsec⟩ : ∃ sec, sec = s.opn[k].1 := ⟨_, rfl⟩
      obtain ⟨b, hb⟩ : ∃ b, b = s.opn[k].2 := ⟨_, rfl⟩
      have hsl : sec < s.now.length := by rw [hsec]; exact (HG.out.opns _ (List.getElem_mem hlt)).1
      have hbs : b.size = s.size := by rw [hb]; exact (HG.out.opns _ (List.getElem_mem hlt)).2
      have hcov : crashTo keep lk t s.opn s.last (k + 1) = step keep lk t (crashTo keep lk t s.opn s.last k) k (sec, b) := by rw [crashTo_succ hlt, hsec, hb]
      have o1' : wr.cell? ⟨g, k * 2, none⟩ = some (.int .i64 (sec : Int)) := by rw [hsec]; exact o1
      have o2' : wr.cell? ⟨g, k * 2 + 1, none⟩ = some (.string b) := by rw [hb]; exact o2
      clear o1 o2
      have HC := Lib.hid hcov
      clear hcov hsec hb
      have HA := Lib.hid (HR.out.alloc (.cells #[.int .i64 (sec : Int), .string b] 82))
      have a2 := HA.out.c2
      have hll : sec < (crashTo keep lk t s.opn s.last k).length := by rw [crashTo_len, HG.out.len]; exact hsl
      have l1 := HA.out.hl.cell sec hll
      have l2 := HA.out.hl.fr sec
      have hys := (HG.out.crashing keep lk hts k).lasts _ (getD_mem hll)
      obtain ⟨y, hy⟩ : ∃ y, y = (crashTo keep lk t s.opn s.last k).getD sec nil := ⟨_, rfl⟩
      rw [← hy] at l1 hys
      have HY := Lib.hid hy
      have hsz := HG.out.sz
      have tb : t ≤ b.size := by omega
      have ty : t ≤ y.size := by simp at hys; omega
      have ub : b.size ≤ 1024 := by omega
      have uy : y.size ≤ 1024 := by simp at hys; omega
      clear hy hys hbs
      by_cases hkl : (k : Int) = lk
      · have e1 : ((k : Int) == lk) = true := by simpa using hkl
        have HKL := Lib.hid hkl
        clear hkl
        go_wp2
        go_region
        go_wp2
        go_roundg (s.opn.length - (k + 1))
        case measure => have := HK.out; omega
        case rel =>
          refine ⟨k + 1, Lib.hid rfl, by omega, by go_num, Lib.hid ?_, Lib.hid ((HKr.out.alloc _).setCell (fun _ => HI.out.pl) _).drew⟩
          rw [HC.out, step_torn HKL.out, ← HY.out]
          exact (HA.out.setLast sec (torn t b y)).drew
      · have e1 : ((k : Int) == lk) = false := by simpa using hkl
        have HKL := Lib.hid hkl
        clear hkl
        cases hbk : bit keep k with
        | true =>
          have HBB := Lib.hid hbk
          clear hbk
          go_wp2_with fail
          refine (kept_any keep k hk (by omega) _).mono ?_
          rintro e w' ⟨rfl, rfl⟩
          rw [HBB.out]
          go_wp2
          go_region
          go_wp2
          go_roundg (s.opn.length - (k + 1))
          case measure => have := HK.out; omega
          case rel =>
            refine ⟨k + 1, Lib.hid rfl, by omega, by go_num, Lib.hid ?_, Lib.hid ((HKr.out.alloc _).setCell (fun _ => HI.out.pl) _).drew⟩
            rw [HC.out, step_kept HKL.out HBB.out]
            exact (HA.out.setLast sec b).drew
        | false =>
          have HBB := Lib.hid hbk
          clear hbk
          go_wp2_with fail
          refine (kept_any keep k hk (by omega) _).mono ?_
          rintro e w' ⟨rfl, rfl⟩
          rw [HBB.out]
          go_wp2
          go_roundg (s.opn.length - (k + 1))
          case measure => have := HK.out; omega
          case rel =>
            refine ⟨k + 1, Lib.hid rfl, by omega, by go_num, Lib.hid ?_, Lib.hid (HKr.out.alloc _)⟩
            rw [HC.out, step_lost HKL.out HBB.out]
            exact HA.out
    · obtain rfl : k = s.opn.length := by omega
      have HG1 := Lib.hid (HG.out.crashing keep lk hts s.opn.length)
      obtain ⟨L, hL⟩ : ∃ L, L = crashTo keep lk t s.opn s.last s.opn.length := ⟨_, rfl⟩
      have HR1 : Hid (InvP wr B P d f { s with last := L } fu nb lb (.slice ao s.opn.length cap)) := by rw [hL]; exact HR
      have HG2 : Hid ({ s with last := L } : Dk).Good := by rw [hL]; exact HG1
      have HLL : Hid (L = s.crashed keep t) := Lib.hid (by rw [hL, HLK.out]; rfl)
      clear hL HR HG1
      have c3 := HR1.out.c3
      clear HK
      go_wp2
      go_loopg [75] s.opn.length (fun g i wx => ∃ k : Nat, Hid (g = s.opn.length - k) ∧ k ≤ s.opn.length ∧ i = .int .i64 k ∧ Hid (InvP wx B P d f { s with last := L, now := cover L s.opn s.now k } fu nb lb (.slice ao s.opn.length cap)) ∧ Hid (Kept P w wx))
      case atStart => exact ⟨0, Lib.hid rfl, Nat.zero_le _, rfl, HR1, HKr⟩
      case round =>
        obtain ⟨k, HK, hk2, rfl, HR, HKx⟩ := hrel
        by_cases hlt : k < s.opn.length
        · obtain ⟨g, cap', hov, hpg⟩ := HR.out.opened (Nat.lt_of_le_of_lt (Nat.zero_le _) hlt)
          obtain ⟨rfl, rfl⟩ : ao = some ⟨g, 0, none⟩ ∧ cap = cap' := by simpa using hov
          clear hov
          obtain ⟨o1, o2⟩ := HR.out.open_cells k hlt
          obtain ⟨sec, hsec⟩ : ∃ sec, sec = s.opn[k].1 := ⟨_, rfl⟩
          obtain ⟨b, hb⟩ : ∃ b, b = s.opn[k].2 := ⟨_, rfl⟩
          have hsl : sec < s.now.length := by rw [hsec]; exact (HG.out.opns _ (List.getElem_mem hlt)).1
          have hcov : cover L s.opn s.now (k + 1) = (cover L s.opn s.now k).set sec (L.getD sec nil) := by rw [cover_succ hlt, ← hsec]
          have o1' : wr.cell? ⟨g, k * 2, none⟩ = some (.int .i64 (sec : Int)) := by rw [hsec]; exact o1
          have o2' : wr.cell? ⟨g, k * 2 + 1, none⟩ = some (.string b) := by rw [hb]; exact o2
          clear o1 o2
          have HC := Lib.hid hcov
          clear hcov hsec hb
          have HA := Lib.hid (HR.out.alloc (.cells #[.int .i64 (sec : Int), .string b] 82))
          have a1 := HA.out.c1
          have a2 := HA.out.c2
          rw [cover_len] at a1 a2
          have hll : sec < L.length := by have := HG2.out.len; simp at this; omega
          have hnl : sec < (cover L s.opn s.now k).length := by rw [cover_len]; exact hsl
          have l1 := HA.out.hl.cell sec hll
          have n1 := HA.out.hn.cell sec hnl
          have n2 := HA.out.hn.fr sec
          obtain ⟨x, hx⟩ : ∃ x, x = L.getD sec nil := ⟨_, rfl⟩
          obtain ⟨y, hy⟩ : ∃ y, y = (cover L s.opn s.now k).getD sec nil := ⟨_, rfl⟩
          rw [← hx] at l1
          rw [← hy] at n1
          have HX := Lib.hid hx
          clear hx hy
          go_wp2
          go_region
          go_wp2
          go_roundg (s.opn.length - (k + 1))
          case measure => have := HK.out; omega
          case rel =>
            refine ⟨k + 1, Lib.hid rfl, by omega, by go_num, Lib.hid ?_, Lib.hid ((HKx.out.alloc _).setCell (fun _ => HI.out.pn) _).drew⟩
            rw [HC.out, ← HX.out]
            exact (HA.out.setNow sec x).drew
        · obtain rfl : k = s.opn.length := by omega
          have hri : cover L s.opn s.now s.opn.length = L := HG2.out.risen
          have HR3 : Hid (InvP wr B P d f { s with last := L, now := L } fu nb lb (.slice ao s.opn.length cap)) := by
            have := HR.out
            rw [hri] at this
            exact Lib.hid this
          clear hri HR
          have f3 := HR3.out.fr 3
          have c3' := HR3.out.c3
          have HR4 := Lib.hid HR3.out.none_open
          have c4 := HR4.out.c4
          have HK4 := Lib.hid (HKx.out.setCell (a := ⟨d, 3, none⟩) (fun _ => HI.out.pd) (.slice none 0 0))
          go_wp2_with fail
          refine (reset_any f _ _ HR4.out.hf).mono ?_
          rintro e w5 ⟨rfl, hz, hon⟩
          have HI5 := Lib.hid (HR4.out.fuse hz hon)
          have HK5 := Lib.hid (HK4.out.only hon fun _ => HI.out.pf)
          clear hz hon
          go_wp2
          go_end0
          refine ⟨rfl, ?_, HK5.out⟩
          have := HI5.out
          rw [HLL.out] at this
          exact this
end Go.Proofs.Ytooikkjgcpngdaa
