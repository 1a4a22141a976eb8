/-
  What package disk's small functions answer: within, has, Size, Len, Open, kept, Read, blank.
-/
import Derived.Test.YtooikkjgcpngdaaMem
import Derived.Test.YtooikkjgcpngdaaShelf
import Derived.Deep.LoopGhost
import Derived.WalkSpells
import Derived.WalkSmall
import Derived.Deep.OwnRows
namespace Go.Proofs.Ytooikkjgcpngdaa
open Go.RowKit

set_option maxHeartbeats 400000 in
theorem within_any (n lo hi : Int) (w : World) : Calls Try.prog 30 #[.int .i64 n, .int .i64 lo, .int .i64 hi] w fun e w' => e = .returned (.int .i64 (min (max n lo) hi)) ∧ w = w' := by
  go_enter Try.func30, Try.ntmps30
  go_wp2
  go_ret
  exact ⟨rfl, rfl⟩

variable {P : Nat → Prop} {w : World} {B d f nb lb : Nat} {s : Dk} {fu : Fu} {ov : Value}

set_option maxHeartbeats 400000 in
theorem has_in (i : Nat) (h : InvP w B P d f s fu nb lb ov) (hi : i < s.now.length) : Calls Try.prog 77 #[.pointer (some ⟨d, 0, none⟩), .int .i64 (i : Int)] w fun e w' => e = .returned (.bool true) ∧ w = w' := by
  have c1 := h.c1
  clear h
  have e1 : decide (0 ≤ (i : Int)) = true := by simp
  have e2 : decide ((i : Int) < (s.now.length : Int)) = true := by simpa using hi
  go_enter Try.func77, Try.ntmps77
  go_wp2
  go_ret
  exact ⟨rfl, rfl⟩
set_option maxHeartbeats 400000 in
theorem has_low (i : Int) (hi : i < 0) (w : World) (d : Nat) : Calls Try.prog 77 #[.pointer (some ⟨d, 0, none⟩), .int .i64 i] w fun e w' => e = .returned (.bool false) ∧ w = w' := by
  have e1 : decide (0 ≤ i) = false := by simpa using hi
  go_enter Try.func77, Try.ntmps77
  go_wp2
  go_ret
  exact ⟨rfl, rfl⟩
set_option maxHeartbeats 400000 in
theorem has_high (i : Int) (h : InvP w B P d f s fu nb lb ov) (h0 : 0 ≤ i) (hi : (s.now.length : Int) ≤ i) : Calls Try.prog 77 #[.pointer (some ⟨d, 0, none⟩), .int .i64 i] w fun e w' => e = .returned (.bool false) ∧ w = w' := by
  have c1 := h.c1
  clear h
  have e1 : decide (0 ≤ i) = true := by simpa using h0
  have e2 : decide (i < (s.now.length : Int)) = false := by simpa using hi
  go_enter Try.func77, Try.ntmps77
  go_wp2
  go_ret
  exact ⟨rfl, rfl⟩
set_option maxHeartbeats 400000 in
theorem size_any (h : InvP w B P d f s fu nb lb ov) : Calls Try.prog 54 #[.pointer (some ⟨d, 0, none⟩)] w fun e w' => e = .returned (.int .i64 (s.size : Int)) ∧ w = w' := by
  have c0 := h.c0
  clear h
  go_enter Try.func54, Try.ntmps54
  go_wp2
  go_ret
  exact ⟨rfl, rfl⟩
set_option maxHeartbeats 400000 in
theorem len_any (h : InvP w B P d f s fu nb lb ov) : Calls Try.prog 28 #[.pointer (some ⟨d, 0, none⟩)] w fun e w' => e = .returned (.int .i64 (s.now.length : Int)) ∧ w = w' := by
  have c0 := h.c1
  clear h
  go_enter Try.func28, Try.ntmps28
  go_wp2
  go_ret
  exact ⟨rfl, rfl⟩
theorem InvP.shape (h : InvP w B P d f s fu nb lb ov) : ∃ a cap, ov = .slice a s.opn.length cap := by
  rcases h.ho.2 with ⟨hv, hn⟩ | ⟨g, cap, cur, hv, _⟩
  · exact ⟨none, 0, by rw [hv, hn]⟩
  · exact ⟨_, cap, hv⟩
set_option maxHeartbeats 400000 in
theorem open_any (h : InvP w B P d f s fu nb lb ov) : Calls Try.prog 33 #[.pointer (some ⟨d, 0, none⟩)] w fun e w' => e = .returned (.int .i64 (s.opn.length : Int)) ∧ w = w' := by
  have c0 := h.c3
  obtain ⟨a, cap, rfl⟩ := h.shape
  clear h
  go_enter Try.func33, Try.ntmps33
  go_wp2
  go_ret
  exact ⟨rfl, rfl⟩

theorem bit_int (keep i : Nat) (hk : keep < 18446744073709551616) : (bits BinOp.and IntKind.u64 ((keep : Int) / 2 ^ (i % 64)) 1 == 1) = bit keep i := by
  have e : (keep : Int) / 2 ^ (i % 64) = ((keep / 2 ^ (i % 64) : Nat) : Int) := by push_cast; rfl
  have hq : keep / 2 ^ (i % 64) ≤ keep := Nat.div_le_self _ _
  rw [e]
  unfold bit
  generalize keep / 2 ^ (i % 64) = q at hq
  rw [and_one_u64 _ (by omega) (by omega)]
  rw [Bool.eq_iff_iff]
  simp
  omega
set_option maxHeartbeats 400000 in
theorem kept_any (keep i : Nat) (hk : keep < 18446744073709551616) (hi : i < 1000000) (w : World) : Calls Try.prog 45 #[.int .u64 (keep : Int), .int .i64 (i : Int)] w fun e w' => e = .returned (.bool (bit keep i)) ∧ w = w' := by
  go_enter Try.func45, Try.ntmps45
  go_wp2
  go_ret
  exact ⟨by rw [bit_int keep i hk]; rfl, rfl⟩

set_option maxHeartbeats 400000 in
theorem read_in (i : Nat) (h : InvP w B P d f s fu nb lb ov) (hi : i < s.now.length) : Calls Try.prog 78 #[.pointer (some ⟨d, 0, none⟩), .int .i64 (i : Int)] w fun e w' => e = .returned (.tuple #[.string (s.now.getD i nil), .int .i64 0]) ∧ w = w' := by
  have c1 := h.c1
  have c2 := h.hn.cell i hi
  obtain ⟨x, hx⟩ : ∃ x, x = s.now.getD i nil := ⟨_, rfl⟩
  rw [← hx] at c2 ⊢
  clear hx
  have e2 : decide ((i : Int) < (s.now.length : Int)) = true := by simpa using hi
  have HH := Lib.hid h
  clear h
  go_enter Try.func78, Try.ntmps78
  go_wp2_with fail
  refine (has_in i HH.out hi).mono ?_
  rintro e w' ⟨rfl, rfl⟩
  go_wp2
  go_ret2
  exact ⟨rfl, rfl⟩
set_option maxHeartbeats 400000 in
theorem read_out (i : Int) (h : InvP w B P d f s fu nb lb ov) (hi : i < 0 ∨ (s.now.length : Int) ≤ i) : Calls Try.prog 78 #[.pointer (some ⟨d, 0, none⟩), .int .i64 i] w fun e w' => e = .returned (.tuple #[.string nil, .int .i64 1]) ∧ w = w' := by
  have HH := Lib.hid h
  have hc : Calls Try.prog 77 #[.pointer (some ⟨d, 0, none⟩), .int .i64 i] w fun e w' => e = .returned (.bool false) ∧ w = w' := by
    rcases (by omega : i < 0 ∨ 0 ≤ i) with h1 | h1
    · exact has_low i h1 w d
    · exact has_high i HH.out h1 (by omega)
  clear h HH
  go_enter Try.func78, Try.ntmps78
  go_wp2_with fail
  refine hc.mono ?_
  rintro e w' ⟨rfl, rfl⟩
  go_wp2
  go_ret2
  exact ⟨rfl, rfl⟩

/-! Texts of one byte. -/
def same (c : UInt8) (n : Nat) : ByteArray := ⟨(List.replicate n c).toArray⟩
theorem same_size (c : UInt8) (n : Nat) : (same c n).size = n := by simp [same, ByteArray.size]
theorem repeat_any (c : UInt8) (n : Nat) (w : World) (h : n ≤ 100000) : Calls Try.prog 50 #[.string ⟨#[c]⟩, .int .i64 (n : Int)] w fun e w' => e = .returned (.string (same c n)) ∧ Below w.heap.size w w' := by
  have hc := Try.strings_Repeat ⟨#[c]⟩ n w (by omega) (by simp [ByteArray.size]; omega)
  have e : Lib.repeatL (⟨#[c]⟩ : ByteArray).data.toList n = List.replicate n c := by
    have := Lib.repeatL_replicate c 1 n
    rw [Nat.mul_one] at this
    exact this
  rw [e] at hc
  exact hc

theorem Tinfo9 : (Try.prog.info? 9).map (fun i => (i.zero, i.size, i.bytes)) = some (some (.string ⟨#[]⟩), 1, 16) := by kernel_rfl
/-- The first k of n texts are z. -/
def part (z : ByteArray) (n k : Nat) : List ByteArray := List.replicate k z ++ List.replicate (n - k) nil
theorem part_set (z : ByteArray) (n k : Nat) (h : k < n) : (part z n k).set k z = part z n (k + 1) := by
  obtain ⟨m, rfl⟩ : ∃ m, n = k + 1 + m := ⟨n - (k + 1), by omega⟩
  unfold part
  rw [List.set_append_right _ _ (by simp), List.length_replicate, Nat.sub_self, show k + 1 + m - k = m + 1 by omega, show k + 1 + m - (k + 1) = m by omega, List.replicate_succ, List.set_cons_zero, List.replicate_succ' (n := k), List.append_assoc]
  rfl
theorem part_len (z : ByteArray) (n k : Nat) (h : k ≤ n) : (part z n k).length = n := by simp [part]; omega
theorem Row.made (w : World) (n : Nat) (z : ByteArray) : Row (w.alloc (.cells (madeCells #[.string ⟨#[]⟩] n) 9)) w.heap.size (part z n 0) := by
  unfold Row
  rw [heap_alloc_new]
  congr 2
  apply Array.toList_inj.1
  simp [toList_madeCells_one, part, strs, nil]

set_option maxHeartbeats 1000000 in
theorem blank_any (size n : Nat) (w : World) (hs : size ≤ 1024) (hn : n ≤ 1024) : Calls Try.prog 31 #[.int .i64 (size : Int), .int .i64 (n : Int)] w fun e w' => ∃ b, e = .returned (.slice (some ⟨b, 0, none⟩) n n) ∧ w.heap.size ≤ b ∧ Row w' b (List.replicate n (same 0 size)) ∧ Below w.heap.size w w' := by
  have hmk := fun w => run_make_row' (P := Try.prog) 36 9 (.string ⟨#[]⟩) 16 Try.underlying36 Tinfo9 rfl .i64 .i64 n (by omega) (by omega) w
  go_enter Try.func31, Try.ntmps31
  go_wp2_with fail
  refine (repeat_any 0 size _ (by omega)).mono ?_
  rintro e w1 ⟨rfl, hb1⟩
  obtain ⟨z, hz⟩ : ∃ z, z = same 0 size := ⟨_, rfl⟩
  rw [← hz]
  have HZ := Lib.hid hz
  clear hz
  have HB := Lib.hid hb1
  have HR := Lib.hid (Row.made w1 n z)
  obtain ⟨b, hb⟩ : ∃ b, b = w1.heap.size := ⟨_, rfl⟩
  have HBB := Lib.hid hb
  go_wp2
  rw [← hb]
  clear hb hb1 hmk
  go_loopg [14] n (fun g i wr => ∃ k : Nat, Hid (g = n - k) ∧ k ≤ n ∧ i = .int .i64 k ∧ Hid (Row wr b (part z n k)) ∧ Hid (Below w.heap.size w wr))
  case atStart => exact ⟨0, Lib.hid rfl, Nat.zero_le _, rfl, by rw [HBB.out]; exact HR, Lib.hid (HB.out.alloc HB.out.size _)⟩
  case round =>
    obtain ⟨k, HK, hk, rfl, HR, HBl⟩ := hrel
    by_cases hlt : k < n
    · have c1 := HR.out.cell k (by rw [part_len _ _ _ hk]; exact hlt)
      have c2 := HR.out.fr k
      obtain ⟨x, hx⟩ : ∃ x, x = (part z n k).getD k nil := ⟨_, rfl⟩
      rw [← hx] at c1
      clear hx
      go_wp2
      go_roundg (n - (k + 1))
      case measure => have := HK.out; omega
      case rel =>
        refine ⟨k + 1, Lib.hid rfl, by omega, by go_num, Lib.hid ?_, Lib.hid ?_⟩
        · rw [← part_set z n k hlt]
          exact HR.out.set k z
        · exact HBl.out.setCell (by rw [HBB.out]; exact HB.out.size) _
    · obtain rfl : k = n := by omega
      go_wp2
      go_ret
      refine ⟨b, rfl, by rw [HBB.out]; exact HB.out.size, ?_, HBl.out⟩
      have h := HR.out
      rw [HZ.out] at h
      simpa [part] using h
end Go.Proofs.Ytooikkjgcpngdaa
