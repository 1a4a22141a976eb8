/-
  What package crc's functions answer: step, afterEight, take, Sum.
-/
import Derived.Test.YtooikkjgcpngdaaCrcRefB
namespace Go.Proofs.Ytooikkjgcpngdaa.Fr
open Go.RowKit

/-- The slice v reads as the values xs. -/
def Vals (w : World) (v : Value) (xs : List Value) : Prop :=
  ((∃ A c, v = .slice A 0 c) ∧ xs = []) ∨
  ∃ b off c, v = .slice (some ⟨b, off, none⟩) xs.length c ∧ xs.length ≤ c ∧ b < w.heap.size ∧ ∀ k u, xs[k]? = some u → w.cell? ⟨b, off + k, none⟩ = some u

def strs (xs : List ByteArray) : List Value := xs.map Value.string
theorem strs_len (xs : List ByteArray) : (strs xs).length = xs.length := by simp [strs]
theorem strs_at (xs : List ByteArray) (k : Nat) (h : k < xs.length) : (strs xs)[k]? = some (.string xs[k]) := by simp [strs, h]
theorem strs_one (xs : List ByteArray) : ∀ u ∈ strs xs, u.oneCell' = true := by
  intro u hu
  obtain ⟨s, _, rfl⟩ := List.mem_map.1 hu
  rfl
theorem Vals.keep {w w' : World} {v : Value} {xs : List Value} (h : Vals w v xs) (hs : w.heap.size ≤ w'.heap.size) (hk : ∀ b k, b < w.heap.size → w'.cell? ⟨b, k, none⟩ = w.cell? ⟨b, k, none⟩) : Vals w' v xs := by
  rcases h with h | ⟨b, off, c, hv, hc, hb, hx⟩
  · exact .inl h
  · exact .inr ⟨b, off, c, hv, hc, Nat.lt_of_lt_of_le hb hs, fun k u hu => (hk _ _ hb).trans (hx k u hu)⟩
theorem Vals.under {w w' : World} {v : Value} {xs : List Value} (h : Vals w v xs) (hb : Below w.heap.size w w') : Vals w' v xs :=
  h.keep hb.size fun b k hlt => hb.cell (p := ⟨b, k, none⟩) hlt
theorem Vals.empty {w : World} {v : Value} (h : Vals w v []) : ∃ A c, v = .slice A 0 c := by
  rcases h with ⟨h, _⟩ | ⟨b, o, c, rfl, _⟩
  · exact h
  · exact ⟨_, _, rfl⟩
theorem Vals.slice {w : World} {v : Value} {xs : List Value} (h : Vals w v xs) : ∃ A c, v = .slice A xs.length c := by
  rcases h with ⟨⟨A, c, rfl⟩, rfl⟩ | ⟨b, o, c, rfl, _⟩
  · exact ⟨_, _, rfl⟩
  · exact ⟨_, _, rfl⟩
theorem Vals.full {w : World} {v : Value} {xs : List Value} (h : Vals w v xs) (hn : 0 < xs.length) : ∃ b off c, v = .slice (some ⟨b, off, none⟩) xs.length c ∧ xs.length ≤ c ∧ b < w.heap.size ∧ ∀ k u, xs[k]? = some u → w.cell? ⟨b, off + k, none⟩ = some u := by
  rcases h with ⟨_, rfl⟩ | h
  · simp at hn
  · exact h
/-- A new row of one text. -/
theorem Vals.one (w : World) (s : ByteArray) (t : TypeId) : Vals (w.alloc (.cells #[.string s] t)) (.slice (some ⟨w.heap.size, 0, none⟩) 1 1) (strs [s]) := by
  refine .inr ⟨w.heap.size, 0, 1, rfl, by simp [strs], by simp, fun k u hu => ?_⟩
  have hk : k < 1 := by
    have := (List.getElem?_eq_some_iff.1 hu).1
    simpa [strs] using this
  obtain rfl : k = 0 := by omega
  simp [strs] at hu ⊢
  exact hu

/-- All bytes of texts, one behind the other. -/
def joined (xs : List ByteArray) : List UInt8 := (xs.map (·.data.toList)).flatten
theorem joined_one (s : ByteArray) : joined [s] = s.data.toList := by simp [joined]
theorem joined_snoc (xs : List ByteArray) (k : Nat) (h : k < xs.length) : joined (xs.take (k + 1)) = joined (xs.take k) ++ xs[k].data.toList := by
  unfold joined
  rw [List.take_succ_eq_append_getElem h, List.map_append, List.flatten_append]
  simp

theorem xor_poly' (n : Nat) : bits .xor .u32 ((n : Int) * 2 % 4294967296) 79764919 = (((2 * n % 4294967296) ^^^ 79764919 : Nat) : Int) := by
  rw [Int.mul_comm]; exact xor_poly n
theorem and_top (n : Nat) (h : n < 4294967296) : (bits .and .u32 (n : Int) 2147483648 != 0) = decide (2147483648 ≤ n) := by
  rw [show (2147483648 : Int) = ((2147483648 : Nat) : Int) from rfl, u32_and_nat n 2147483648 h (by omega)]
  have e : n &&& 2147483648 = if 2147483648 ≤ n then 2147483648 else 0 := by
    apply Nat.eq_of_testBit_eq
    intro i
    rw [Nat.testBit_and, show (2147483648 : Nat) = 2 ^ 31 from rfl, Nat.testBit_two_pow]
    by_cases hi : 31 = i
    · subst hi
      rw [Nat.testBit_eq_decide_div_mod_eq]
      by_cases hn : 2 ^ 31 ≤ n
      · rw [if_pos hn, Nat.testBit_two_pow_self]; simp; omega
      · rw [if_neg hn, Nat.zero_testBit]; simp; omega
    · split
      · rw [Nat.testBit_two_pow]; simp [hi]
      · simp [hi]
  rw [e]
  by_cases hn : 2147483648 ≤ n <;> simp [hn]

set_option maxHeartbeats 400000 in
theorem step_any (x : BitVec 32) (w : World) :
    Calls Try.prog 93 #[.int .u32 (x.toNat : Int)] w fun e w' => e = .returned (.int .u32 ((stepV x).toNat : Int)) ∧ w = w' := by
  have hx : x.toNat < 4294967296 := x.isLt
  have hb := Lib.hid (stepV_toNat x)
  have ha := Lib.hid (and_top x.toNat hx)
  go_enter Try.func93, Try.ntmps93
  go_wp2
  · rename_i h
    rw [ha.out] at h
    go_ret
    refine ⟨ret_int ?_, rfl⟩
    rw [hb.out, if_pos (by simpa using h), xor_poly']
  · rename_i h
    rw [ha.out] at h
    go_ret
    refine ⟨ret_int ?_, rfl⟩
    rw [hb.out, if_neg (by simpa using h)]
    omega

theorem stepsV_succ (k : Nat) : ∀ x, stepsV (k + 1) x = stepV (stepsV k x) := by
  induction k with
  | zero => intro x; rfl
  | succ k ih => intro x; exact ih (stepV x)

theorem lay_byte (x : BitVec 32) (c : UInt8) : bits .xor .u32 (x.toNat : Int) ((c.toNat : Int) * 16777216) = ((x ^^^ BitVec.ofNat 32 (c.toNat * 16777216)).toNat : Int) := by
  have hx : x.toNat < 4294967296 := x.isLt
  have hc := c.toNat_lt
  rw [show (c.toNat : Int) * 16777216 = ((c.toNat * 16777216 : Nat) : Int) by omega, u32_xor_nat _ _ hx (by omega), BitVec.toNat_xor, BitVec.toNat_ofNat, Nat.mod_eq_of_lt (by omega)]


/-! A byte taken: the highest eight bits decide alone. -/
theorem stepV_low (y : BitVec 32) (h : y.toNat < 2147483648) : (stepV y).toNat = 2 * y.toNat := by
  rw [stepV_toNat, if_neg (by omega)]
  omega
theorem stepsV_low (k : Nat) : ∀ y : BitVec 32, y.toNat * 2 ^ k < 4294967296 → (stepsV k y).toNat = y.toNat * 2 ^ k := by
  induction k with
  | zero => intro y _; simp [stepsV]
  | succ k ih =>
    intro y hy
    have e : 2 ^ (k + 1) = 2 ^ k * 2 := Nat.pow_succ ..
    have hp : 0 < 2 ^ k := Nat.two_pow_pos k
    have h1 : y.toNat * 2 ≤ y.toNat * 2 ^ (k + 1) := by rw [e]; exact Nat.mul_le_mul_left _ (by omega)
    have h2 := stepV_low y (by omega)
    have h3 : (stepV y).toNat * 2 ^ k = y.toNat * 2 ^ (k + 1) := by rw [h2, e, Nat.mul_comm 2, Nat.mul_assoc, Nat.mul_comm 2]
    show (stepsV k (stepV y)).toNat = _
    rw [ih (stepV y) (by rw [h3]; exact hy), h3]
theorem split_low (x : BitVec 32) : x = BitVec.ofNat 32 (x.toNat % 16777216) ^^^ BitVec.ofNat 32 (x.toNat / 16777216 * 16777216) := by
  have hx := x.isLt
  apply BitVec.eq_of_toNat_eq
  have h1 : x.toNat % 16777216 % 2 ^ 32 = x.toNat % 16777216 := Nat.mod_eq_of_lt (by omega)
  have h2 : x.toNat / 16777216 * 16777216 % 2 ^ 32 = x.toNat / 16777216 * 16777216 := Nat.mod_eq_of_lt (by omega)
  rw [BitVec.toNat_xor, BitVec.toNat_ofNat, BitVec.toNat_ofNat, h1, h2]
  apply Nat.eq_of_testBit_eq
  intro i
  rw [Nat.testBit_xor, show (16777216 : Nat) = 2 ^ 24 from rfl, Nat.testBit_mod_two_pow, Nat.testBit_mul_two_pow, Nat.testBit_div_two_pow]
  by_cases h : i < 24
  · simp [h, show ¬ 24 ≤ i by omega]
  · simp [h, show 24 ≤ i by omega, show i - 24 + 24 = i by omega]
theorem high_xor (a b : Nat) (ha : a < 256) (hb : b < 256) : BitVec.ofNat 32 (a * 16777216) ^^^ BitVec.ofNat 32 (b * 16777216) = BitVec.ofNat 32 ((a ^^^ b) * 16777216) := by
  have hab : a ^^^ b < 256 := Nat.xor_lt_two_pow (n := 8) ha hb
  apply BitVec.eq_of_toNat_eq
  rw [BitVec.toNat_xor, BitVec.toNat_ofNat, BitVec.toNat_ofNat, BitVec.toNat_ofNat, Nat.mod_eq_of_lt (by omega), Nat.mod_eq_of_lt (by omega), Nat.mod_eq_of_lt (by omega)]
  apply Nat.eq_of_testBit_eq
  intro i
  rw [Nat.testBit_xor, show (16777216 : Nat) = 2 ^ 24 from rfl, Nat.testBit_mul_two_pow, Nat.testBit_mul_two_pow, Nat.testBit_mul_two_pow, Nat.testBit_xor]
  by_cases h : 24 ≤ i <;> simp [h]
/-- What eight steps make of a highest byte. -/
def eightV (h : Nat) : BitVec 32 := stepsV 8 (BitVec.ofNat 32 (h * 16777216))
theorem take_eq (x : BitVec 32) (c : UInt8) : (runV x [c]).toNat = (x.toNat * 256 % 4294967296) ^^^ (eightV (x.toNat / 16777216 ^^^ c.toNat)).toNat := by
  have hx := x.isLt
  have hc := c.toNat_lt
  have e1 : x ^^^ BitVec.ofNat 32 (c.toNat * 16777216) = BitVec.ofNat 32 (x.toNat % 16777216) ^^^ BitVec.ofNat 32 ((x.toNat / 16777216 ^^^ c.toNat) * 16777216) := by
    rw [← high_xor _ _ (by omega) hc, ← BitVec.xor_assoc, ← split_low]
  rw [byteV_eq, e1, stepsV_xor, BitVec.toNat_xor, stepsV_low 8 _ (by rw [BitVec.toNat_ofNat, Nat.mod_eq_of_lt (by omega)]; omega), BitVec.toNat_ofNat, Nat.mod_eq_of_lt (by omega)]
  congr 1
  omega

set_option maxHeartbeats 400000 in
theorem afterEight_any (c : UInt8) (w : World) :
    Calls Try.prog 92 #[.int .u8 (c.toNat : Int)] w fun e w' => e = .returned (.int .u32 ((eightV c.toNat).toNat : Int)) ∧ w = w' := by
  have hc : c.toNat < 256 := c.toNat_lt
  obtain ⟨y, hy⟩ : ∃ y, y = BitVec.ofNat 32 (c.toNat * 16777216) := ⟨_, rfl⟩
  have hyn : (y.toNat : Int) = (c.toNat : Int) * 16777216 := by rw [hy, BitVec.toNat_ofNat, Nat.mod_eq_of_lt (by omega)]; omega
  have HY : Hid (eightV c.toNat = stepsV 8 y) := Lib.hid (by rw [hy]; rfl)
  have HYN := Lib.hid hyn
  clear hy hyn
  go_enter Try.func92, Try.ntmps92
  go_wp2
  go_loop [3, 7] (fun a i => ∃ k : Nat, k ≤ 8 ∧ i = .int .i64 k ∧ a = .int .u32 ((stepsV k y).toNat : Int)) (fun _ i => 8 - (intOf i).toNat)
  case atStart => exact ⟨0, by omega, rfl, int_eq HYN.out.symm⟩
  case round =>
    obtain ⟨k, hk, rfl, rfl⟩ := hrel
    by_cases hlt : k < 8
    · have HS := Lib.hid (stepsV_succ k y)
      go_wp2_with (go_at_call 93; refine (step_any _ _).mono ?_; rintro e w' ⟨rfl, rfl⟩)
      go_round
      case rel => exact ⟨k + 1, by omega, by go_num, by rw [HS.out]⟩
      case measure => simp [intOf]; omega
    · obtain rfl : k = 8 := by omega
      go_wp2
      go_ret
      exact ⟨ret_int (by rw [HY.out]), rfl⟩

set_option maxHeartbeats 400000 in
theorem take_any (x : BitVec 32) (c : UInt8) (w : World) :
    Calls Try.prog 87 #[.int .u32 (x.toNat : Int), .int .u8 (c.toNat : Int)] w fun e w' => e = .returned (.int .u32 ((runV x [c]).toNat : Int)) ∧ w = w' := by
  have hx : x.toNat < 4294967296 := x.isLt
  have hc : c.toNat < 256 := c.toNat_lt
  obtain ⟨h, hh⟩ : ∃ h : UInt8, h = UInt8.ofNat (x.toNat / 16777216 ^^^ c.toNat) := ⟨_, rfl⟩
  have hab : x.toNat / 16777216 ^^^ c.toNat < 256 := Nat.xor_lt_two_pow (n := 8) (by omega) hc
  have hn : h.toNat = x.toNat / 16777216 ^^^ c.toNat := by rw [hh, UInt8.toNat_ofNat', Nat.mod_eq_of_lt hab]
  have h1 : bits .xor .u8 ((x.toNat : Int) / 16777216) (c.toNat : Int) = (h.toNat : Int) := by
    rw [show (x.toNat : Int) / 16777216 = ((x.toNat / 16777216 : Nat) : Int) by omega, u8_xor_nat _ _ (by omega) hc, hn]
  have HT : Hid ((runV x [c]).toNat = (x.toNat * 256 % 4294967296) ^^^ (eightV h.toNat).toNat) := Lib.hid (by rw [hn]; exact take_eq x c)
  clear hh hn hab
  go_enter Try.func87, Try.ntmps87
  go_wp2_with fail
  refine (afterEight_any h _).mono ?_
  rintro e w' ⟨rfl, rfl⟩
  obtain ⟨z, hz⟩ : ∃ z, z = eightV h.toNat := ⟨_, rfl⟩
  rw [← hz]
  have hzl : z.toNat < 4294967296 := z.isLt
  have HX : Hid (bits .xor .u32 ((x.toNat : Int) * 256 % 4294967296) (z.toNat : Int) = ((runV x [c]).toNat : Int)) := Lib.hid (by
    rw [HT.out, ← hz, show (x.toNat : Int) * 256 % 4294967296 = ((x.toNat * 256 % 4294967296 : Nat) : Int) by omega]
    exact u32_xor_nat _ _ (by omega) hzl)
  clear hz hzl
  go_wp2
  go_ret
  exact ⟨ret_int HX.out, rfl⟩

theorem xor_all (x : BitVec 32) : bits .xor .u32 4294967295 (x.toNat : Int) = ((~~~ x).toNat : Int) := by
  have hx : x.toNat < 4294967296 := x.isLt
  rw [show (4294967295 : Int) = ((4294967295 : Nat) : Int) from rfl, u32_xor_nat _ _ (by omega) hx]
  congr 1

theorem xor_max (x : BitVec 32) : bits .xor .u32 IntKind.u32.max (x.toNat : Int) = ((~~~ x).toNat : Int) := xor_all x

set_option maxHeartbeats 1000000 in
theorem sum_any (xs : List ByteArray) (v : Value) (w : World) (hl : xs.length ≤ 1000) (hx : ∀ s ∈ xs, s.size ≤ 65536) (hv : Vals w v (strs xs)) :
    Calls Try.prog 76 #[v] w fun e w' => e = .returned (.int .u32 ((sumV (joined xs)).toNat : Int)) ∧ w = w' := by
  have hA : ∃ A c, v = .slice A xs.length c := by
    obtain ⟨A, c, h⟩ := hv.slice
    exact ⟨A, c, by rw [h, strs_len]⟩
  obtain ⟨A, c, rfl⟩ := hA
  have HV := Lib.hid hv
  have HX := Lib.hid hx
  clear hv hx
  go_enter Try.func76, Try.ntmps76
  go_wp2
  go_loop [3, 9] (fun a i => ∃ k : Nat, k ≤ xs.length ∧ i = .int .i64 k ∧ a = .int .u32 ((runV (4294967295#32) (joined (xs.take k))).toNat : Int)) (fun _ i => xs.length - (intOf i).toNat)
  case atStart => exact ⟨0, by omega, rfl, rfl⟩
  case round =>
    obtain ⟨k, hk, rfl, rfl⟩ := hrel
    by_cases hlt : k < xs.length
    · obtain ⟨b, off, c', hv', hcc, hb, hcell⟩ := HV.out.full (by rw [strs_len]; omega)
      obtain rfl : A = some ⟨b, off, none⟩ := by injection hv'
      clear hv'
      have ck : w.cell? ⟨b, off + k, none⟩ = some (.string xs[k]) := hcell k _ (strs_at xs k hlt)
      have hsz : xs[k].size ≤ 65536 := HX.out _ (List.getElem_mem hlt)
      have HJ := Lib.hid (joined_snoc xs k hlt)
      obtain ⟨y, hy⟩ : ∃ y, y = runV (4294967295#32) (joined (xs.take k)) := ⟨_, rfl⟩
      rw [← hy]
      have HY := Lib.hid hy
      obtain ⟨t, ht⟩ : ∃ t, t = xs[k] := ⟨_, rfl⟩
      rw [← ht] at ck hsz
      have HT := Lib.hid ht
      clear hy ht hcell hcc
      go_wp2
      go_loop [3, 15] (fun a i => ∃ j : Nat, j ≤ t.size ∧ i = .int .i64 j ∧ a = .int .u32 ((runV y (t.data.toList.take j)).toNat : Int)) (fun _ i => t.size - (intOf i).toNat)
      case atStart => exact ⟨0, by omega, rfl, rfl⟩
      case round =>
        obtain ⟨j, hj, rfl, rfl⟩ := hrel
        by_cases hjt : j < t.size
        · have HS := Lib.hid (take_snoc t j hjt)
          go_wp2_with (go_at_call 87; refine (take_any _ _ _).mono ?_; rintro e w' ⟨rfl, rfl⟩)
          go_round
          case rel => exact ⟨j + 1, by omega, by go_num, by rw [HS.out, runV_append]⟩
          case measure => simp [intOf]; omega
        · obtain rfl : j = t.size := by omega
          go_wp2
          go_round
          case rel => exact ⟨k + 1, by omega, by go_num, by rw [HJ.out, runV_append, ← HY.out, ← HT.out, take_all]⟩
          case measure => simp [intOf]; omega
    · obtain rfl : k = xs.length := by omega
      go_wp2
      go_ret
      exact ⟨ret_int (xor_max _), rfl⟩

end Go.Proofs.Ytooikkjgcpngdaa.Fr
