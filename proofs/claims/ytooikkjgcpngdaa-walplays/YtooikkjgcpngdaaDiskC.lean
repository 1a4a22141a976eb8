/-
  What package disk's Write refuses, and what Flush makes of a disk.
-/
import Derived.Test.YtooikkjgcpngdaaDiskB
namespace Go.Proofs.Ytooikkjgcpngdaa
open Go.RowKit

variable {P : Nat → Prop} {w : World} {B d f nb lb : Nat} {s : Dk} {fu : Fu} {ov : Value}

set_option maxHeartbeats 400000 in
theorem write_out (i : Int) (b : ByteArray) (h : InvP w B P d f s fu nb lb ov) (hi : i < 0 ∨ (s.now.length : Int) ≤ i) :
    Calls Try.prog 55 #[.pointer (some ⟨d, 0, none⟩), .int .i64 i, .string b] w fun e w' => e = .returned (.int .i64 1) ∧ w = w' := by
  have HH := Lib.hid h
  have hc : Calls Try.prog 77 #[.pointer (some ⟨d, 0, none⟩), .int .i64 i] w fun e w' => e = .returned (.bool false) ∧ w = w' := by
    rcases (by omega : i < 0 ∨ 0 ≤ i) with h1 | h1
    · exact has_low i h1 w d
    · exact has_high i HH.out h1 (by omega)
  clear h HH
  go_enter Try.func55, Try.ntmps55
  go_wp2_with fail
  refine hc.mono ?_
  rintro e w' ⟨rfl, rfl⟩
  go_wp2
  go_ret
  exact ⟨rfl, rfl⟩
set_option maxHeartbeats 400000 in
theorem write_size (i : Nat) (b : ByteArray) (h : InvP w B P d f s fu nb lb ov) (hi : i < s.now.length) (hb : b.size ≠ s.size) :
    Calls Try.prog 55 #[.pointer (some ⟨d, 0, none⟩), .int .i64 (i : Int), .string b] w fun e w' => e = .returned (.int .i64 1) ∧ w = w' := by
  have c0 := h.c0
  have e1 : ((b.size : Int) != (s.size : Int)) = true := by rw [bne_iff_ne]; omega
  have HI := Lib.hid h
  clear h hb
  go_enter Try.func55, Try.ntmps55
  go_wp2_with fail
  refine (has_in i HI.out hi).mono ?_
  rintro e w' ⟨rfl, rfl⟩
  go_wp2
  go_ret
  exact ⟨rfl, rfl⟩
set_option maxHeartbeats 400000 in
theorem write_halt (i : Nat) (b : ByteArray) (h : InvP w B P d f s fu nb lb ov) (hi : i < s.now.length) (hb : b.size = s.size) (ho : fu.ok = false) :
    Calls Try.prog 55 #[.pointer (some ⟨d, 0, none⟩), .int .i64 (i : Int), .string b] w fun e w' => e = .returned (.int .i64 2) ∧ InvP w' B P d f s fu.spent nb lb ov ∧ Kept P w w' := by
  have c0 := h.c0
  have c4 := h.c4
  have e1 : ((b.size : Int) != (s.size : Int)) = false := by simp [hb]
  have HI := Lib.hid h
  clear h hb
  go_enter Try.func55, Try.ntmps55
  go_wp2_with fail
  refine (has_in i HI.out hi).mono ?_
  rintro e w' ⟨rfl, rfl⟩
  go_wp2_with fail
  refine (spend_nay HI.out.hf ho).mono ?_
  rintro e w1 ⟨rfl, hz, hon⟩
  have HI1 := Lib.hid (HI.out.fuse hz hon)
  have HK1 := Lib.hid ((Kept.refl P w).only hon fun _ => HI.out.pf)
  clear hz hon c0 c4
  go_wp2
  go_ret
  exact ⟨rfl, HI1.out, HK1.out⟩

set_option maxHeartbeats 400000 in
theorem flush_halt (h : InvP w B P d f s fu nb lb ov) (ho : fu.ok = false) :
    Calls Try.prog 34 #[.pointer (some ⟨d, 0, none⟩)] w fun e w' => e = .returned (.int .i64 2) ∧ InvP w' B P d f s fu.spent nb lb ov ∧ Kept P w w' := by
  have c4 := h.c4
  have HI := Lib.hid h
  clear h
  go_enter Try.func34, Try.ntmps34
  go_wp2_with fail
  refine (spend_nay HI.out.hf ho).mono ?_
  rintro e w1 ⟨rfl, hz, hon⟩
  have HI1 := Lib.hid (HI.out.fuse hz hon)
  have HK1 := Lib.hid ((Kept.refl P w).only hon fun _ => HI.out.pf)
  clear hz hon c4
  go_wp2
  go_ret
  exact ⟨rfl, HI1.out, HK1.out⟩

theorem InvP.none_open (h : InvP w B P d f s fu nb lb ov) : InvP (w.setCell ⟨d, 3, none⟩ (.slice none 0 0)) B P d f { s with opn := [] } fu nb lb (.slice none 0 0) :=
  h.setOpen _ [] (World.ownsRow_nil _ _ _ _) (fun g hg => by cases hg)

set_option maxHeartbeats 2000000 in
theorem flush_ok (h : InvP w B P d f s fu nb lb ov) (hgd : s.Good) (hu : fu.Good) (hc : fu.count < 1000000) (ho : fu.ok = true) (hl : s.opn.length < 1000000) :
    Calls Try.prog 34 #[.pointer (some ⟨d, 0, none⟩)] w fun e w' => e = .returned (.int .i64 0) ∧ InvP w' B P d f s.flush fu.spent nb lb (.slice none 0 0) ∧ Kept P w w' := by
  have c4 := h.c4
  have HI := Lib.hid h
  have HG := Lib.hid hgd
  clear h hgd
  go_enter Try.func34, Try.ntmps34
  go_wp2_with fail
  refine (spend_yes HI.out.hf hu hc ho).mono ?_
  rintro e w1 ⟨rfl, hz, hon⟩
  have HI1 := Lib.hid (HI.out.fuse hz hon)
  have HK1 := Lib.hid ((Kept.refl P w).only hon fun _ => HI.out.pf)
  clear hz hon c4
  have c3 := HI1.out.c3
  obtain ⟨ao, cap, rfl⟩ := HI1.out.shape
  go_wp2
  go_loopg [16] s.opn.length (fun g i wr => ∃ k : Nat, Hid (g = s.opn.length - k) ∧ k ≤ s.opn.length ∧ i = .int .i64 k ∧ Hid (InvP wr B P d f { s with last := cover s.now s.opn s.last k } fu.spent nb lb (.slice ao s.opn.length cap)) ∧ Hid (Kept P w wr))
  case atStart => exact ⟨0, Lib.hid rfl, Nat.zero_le _, rfl, HI1, HK1⟩
  case round =>
    obtain ⟨k, HK, hk, rfl, HR, HKr⟩ := hrel
    by_cases hlt : k < s.opn.length
    · obtain ⟨g, cap', hov, hpg⟩ := HR.out.opened (Nat.lt_of_le_of_lt (Nat.zero_le _) hlt)
      obtain ⟨rfl, rfl⟩ : ao = some ⟨g, 0, none⟩ ∧ cap = cap' := by simpa using hov
      clear hov
      obtain ⟨o1, o2⟩ := HR.out.open_cells k hlt
      obtain ⟨sec, hsec⟩ : ∃ sec, sec = s.opn[k].1 := ⟨_, rfl⟩
      obtain ⟨b, hb⟩ : ∃ b, b = s.opn[k].2 := ⟨_, rfl⟩
      have hsl : sec < s.now.length := by rw [hsec]; exact (HG.out.opns _ (List.getElem_mem hlt)).1
      have hcov : cover s.now s.opn s.last (k + 1) = (cover s.now s.opn s.last k).set sec (s.now.getD sec nil) := by rw [cover_succ hlt, ← hsec]
      have o1' : wr.cell? ⟨g, k * 2, none⟩ = some (.int .i64 (sec : Int)) := by rw [hsec]; exact o1
      have o2' : wr.cell? ⟨g, k * 2 + 1, none⟩ = some (.string b) := by rw [hb]; exact o2
      clear o1 o2
      have HC := Lib.hid hcov
      clear hcov hsec hb
      have HA := Lib.hid (HR.out.alloc (.cells #[.int .i64 (sec : Int), .string b] 82))
      have a1 := HA.out.c1
      have a2 := HA.out.c2
      have n1 := HA.out.hn.cell sec hsl
      have hll : sec < (cover s.now s.opn s.last k).length := by rw [cover_len, HG.out.len]; exact hsl
      have l1 := HA.out.hl.cell sec hll
      have l2 := HA.out.hl.fr sec
      obtain ⟨x, hx⟩ : ∃ x, x = s.now.getD sec nil := ⟨_, rfl⟩
      obtain ⟨y, hy⟩ : ∃ y, y = (cover s.now s.opn s.last k).getD sec nil := ⟨_, rfl⟩
      rw [← hx] at n1
      rw [← hy] at l1
      have HX := Lib.hid hx
      clear hx hy
      go_wp2
      go_region
      go_wp2
      go_roundg (s.opn.length - (k + 1))
      case measure => have := HK.out; omega
      case rel =>
        refine ⟨k + 1, Lib.hid rfl, by omega, by go_num, Lib.hid ?_, Lib.hid ((HKr.out.alloc _).setCell (fun _ => HI.out.pl) _).drew⟩
        rw [HC.out, ← HX.out]
        exact (HA.out.setLast sec x).drew
    · obtain rfl : k = s.opn.length := by omega
      have f3 := HR.out.fr 3
      have c3' := HR.out.c3
      go_wp2
      go_ret
      refine ⟨rfl, ?_, HKr.out.setCell (fun _ => HI.out.pd) _⟩
      have h1 := HR.out.none_open
      rw [HG.out.flushed] at h1
      exact h1
end Go.Proofs.Ytooikkjgcpngdaa
