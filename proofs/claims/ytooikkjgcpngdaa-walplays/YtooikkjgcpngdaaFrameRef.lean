/-
  The document's own functions of layer 6: bytes, value, Room.
-/
import Derived.Test.YtooikkjgcpngdaaCrc
import Derived.WalkSpells
import Derived.Deep.OwnRows
namespace Go.Proofs.Ytooikkjgcpngdaa.Fr
open Go.RowKit

/-- So many bytes of a number, the highest first. -/
def beL : Nat → Nat → List UInt8
  | 0, _ => []
  | n + 1, x => UInt8.ofNat (x / 256 ^ n % 256) :: beL n x
def be (n x : Nat) : ByteArray := ⟨(beL n x).toArray⟩
theorem beL_len (n x : Nat) : (beL n x).length = n := by
  induction n with
  | zero => rfl
  | succ n ih => simp [beL, ih]
theorem be_size (n x : Nat) : (be n x).size = n := by simp [be, ByteArray.size, beL_len]
theorem be_data (n x : Nat) : (be n x).data.toList = beL n x := by simp [be]
theorem data_inj {a b : ByteArray} (h : a.data.toList = b.data.toList) : a = b := by
  cases a; cases b
  congr 1
  exact Array.toList_inj.1 h
theorem be_succ (n x : Nat) (c : UInt8) (h : c.toNat = x / 256 ^ n % 256) : (⟨#[c]⟩ : ByteArray) ++ be n x = be (n + 1) x := by
  apply data_inj
  rw [Go.Joins.data_append, be_data, be_data]
  have e : c = UInt8.ofNat (x / 256 ^ n % 256) := by
    apply UInt8.toNat_inj.1
    rw [h, UInt8.toNat_ofNat']
    exact (Nat.mod_eq_of_lt (Nat.mod_lt _ (by decide))).symm
  simp [beL, e]

/-- The number that bytes are. -/
def valL (l : List UInt8) : Nat := l.foldl (fun n c => 256 * n + c.toNat) 0
theorem valL_snoc (l : List UInt8) (c : UInt8) : valL (l ++ [c]) = 256 * valL l + c.toNat := by simp [valL]
theorem valL_lt (l : List UInt8) : ∀ k, l.length ≤ k → valL l < 256 ^ k := by
  have key : ∀ (l : List UInt8) (a k : Nat), a < 256 ^ k → l.foldl (fun n c => 256 * n + c.toNat) a < 256 ^ (k + l.length) := by
    intro l
    induction l with
    | nil => intro a k h; simpa using h
    | cons c l ih =>
      intro a k h
      have hc := c.toNat_lt
      have h1 : 256 * a + c.toNat < 256 ^ (k + 1) := by rw [Nat.pow_succ]; omega
      have := ih (256 * a + c.toNat) (k + 1) h1
      rw [List.length_cons, show k + (l.length + 1) = k + 1 + l.length by omega]
      exact this
  intro k hk
  have h1 := key l 0 0 (by decide)
  rw [Nat.zero_add] at h1
  exact Nat.lt_of_lt_of_le h1 (Nat.pow_le_pow_right (by decide) hk)

set_option maxHeartbeats 400000 in
theorem room_any (n : Int) (w : World) (h0 : -9223372036854775808 ≤ n) (h9 : n ≤ 9223372036854775807) : Calls Try.prog 43 #[.int .i64 n] w fun e w' => e = .returned (.int .i64 (if n < 128 ∨ 1024 < n then 0 else n - 14)) ∧ w = w' := by
  by_cases h1 : n < 128
  · have e1 : decide (n < 128) = true := by simpa using h1
    rw [if_pos (.inl h1)]
    go_enter Try.func43, Try.ntmps43
    go_wp2
    go_ret
    exact ⟨rfl, rfl⟩
  · have e1 : decide (n < 128) = false := by simpa using h1
    by_cases h2 : 1024 < n
    · have e2 : decide (1024 < n) = true := by simpa using h2
      rw [if_pos (.inr h2)]
      go_enter Try.func43, Try.ntmps43
      go_wp2
      go_ret
      exact ⟨rfl, rfl⟩
    · have e2 : decide (1024 < n) = false := by simpa using h2
      rw [if_neg (by omega)]
      go_enter Try.func43, Try.ntmps43
      go_wp2
      go_ret
      exact ⟨rfl, rfl⟩

theorem pow_step (x i : Nat) : x / 256 ^ i / 256 = x / 256 ^ (i + 1) := by rw [Nat.div_div_eq_div_mul, Nat.pow_succ]

set_option maxHeartbeats 1000000 in
theorem bytes_any (x n : Nat) (w : World) (hx : x < 9223372036854775807) (hn : n ≤ 8) : Calls Try.prog 80 #[.int .i64 (x : Int), .int .i64 (n : Int)] w fun e w' => e = .returned (.string (be n x)) ∧ Below w.heap.size w w' := by
  go_enter Try.func80, Try.ntmps80
  go_wp2
  go_loopg [0, 5, 6] n (fun gg xv ov iv wr => ∃ (i q : Nat) (o : ByteArray), Hid (gg = n - i) ∧ i ≤ n ∧ Hid (q = x / 256 ^ i) ∧ q < 9223372036854775807 ∧ Hid (o = be i x) ∧ o.size = i ∧ xv = .int .i64 (q : Int) ∧ ov = .string o ∧ iv = .int .i64 (i : Int) ∧ Hid (Below w.heap.size w wr))
  case atStart => exact ⟨0, x, be 0 x, Lib.hid rfl, Nat.zero_le _, Lib.hid (by simp), hx, Lib.hid rfl, be_size _ _, rfl, rfl, rfl, Lib.hid (Below.refl _ _)⟩
  case round =>
    obtain ⟨i, q, o, HG, hi, HQ, hq, HO, hos, rfl, rfl, rfl, HB⟩ := hrel
    by_cases hlt : i < n
    · obtain ⟨c, hc⟩ : ∃ c : UInt8, c = UInt8.ofNat (q % 256) := ⟨_, rfl⟩
      have hcn : (c.toNat : Int) = (q : Int) % 256 := by rw [hc, UInt8.toNat_ofNat', Nat.mod_eq_of_lt (by omega)]; omega
      have kb := run_convert_bytes_back (P := Try.prog) (wr.alloc (.cells #[.int .u8 ((q : Int) % 256)] 5)) 67 9 5 ⟨wr.heap.size, 0, none⟩ 1 [c] Try.underlying67 Try.underlying5 Try.underlying9 (fun j hj => by
        obtain rfl : j = 0 := by simpa using hj
        simp [Addr.add, hcn])
      simp only [List.length_singleton] at kb
      have HCN := Lib.hid hcn
      clear hc hcn
      go_wp2
      go_roundg (n - (i + 1))
      case measure => have := HG.out; omega
      case rel =>
        have hcn' : c.toNat = x / 256 ^ i % 256 := by have := HCN.out; rw [← HQ.out]; omega
        exact ⟨i + 1, q / 256, _, Lib.hid rfl, by omega, Lib.hid (by rw [HQ.out, pow_step]), by omega, Lib.hid (by rw [HO.out]; exact be_succ i x c hcn'), by rw [ByteArray.size_append, hos, show (ByteArray.mk #[c]).size = 1 from rfl]; omega, by go_num, rfl, by go_num, Lib.hid (HB.out.alloc HB.out.size _)⟩
    · obtain rfl : i = n := by omega
      go_wp2
      go_ret
      exact ⟨by rw [← HO.out]; rfl, HB.out⟩

set_option maxHeartbeats 1000000 in
theorem value_any (s : ByteArray) (w : World) (hs : s.size ≤ 4) : Calls Try.prog 61 #[.string s] w fun e w' => e = .returned (.int .i64 (valL s.data.toList : Int)) ∧ w = w' := by
  go_enter Try.func61, Try.ntmps61
  go_wp2
  go_loopg [3, 4] s.size (fun gg vv iv wr => ∃ (i q : Nat), Hid (gg = s.size - i) ∧ i ≤ s.size ∧ Hid (q = valL (s.data.toList.take i)) ∧ q < 4294967296 ∧ vv = .int .i64 (q : Int) ∧ iv = .int .i64 (i : Int) ∧ w = wr)
  case atStart => exact ⟨0, 0, Lib.hid rfl, Nat.zero_le _, Lib.hid rfl, by omega, rfl, rfl, rfl⟩
  case round =>
    obtain ⟨i, q, HG, hi, HQ, hq, rfl, rfl, rfl⟩ := hrel
    by_cases hlt : i < s.size
    · have HS := Lib.hid (take_snoc s i hlt)
      have hc : (s[i]).toNat < 256 := (s[i]).toNat_lt
      have hq2 : 256 * q + (s[i]).toNat < 4294967296 := by
        have h1 := valL_lt (s.data.toList.take (i + 1)) 4 (by rw [List.length_take]; simp; omega)
        rw [HS.out, valL_snoc, ← HQ.out] at h1
        omega
      go_wp2
      go_roundg (s.size - (i + 1))
      case measure => have := HG.out; omega
      case rel => exact ⟨i + 1, 256 * q + (s[i]).toNat, Lib.hid rfl, by omega, Lib.hid (by rw [HS.out, valL_snoc, HQ.out]), hq2, by go_num, by go_num, rfl⟩
    · obtain rfl : i = s.size := by omega
      have HA := Lib.hid (take_all s)
      go_wp2
      go_ret
      exact ⟨ret_int (by rw [HQ.out, HA.out]), rfl⟩
end Go.Proofs.Ytooikkjgcpngdaa.Fr
