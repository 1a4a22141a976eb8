/-
  Plain facts of a register of 32 bits that takes bits, the highest first (no run of a program in this text):
  it is linear, a step is one to one, and two rows of bits of one length that differ within 32 places on end give two registers.
-/
namespace Go.Proofs.Ytooikkjgcpngdaa.Fr

/-- One step of a register. -/
def stepV (x : BitVec 32) : BitVec 32 := if x.msb then (x <<< 1) ^^^ 79764919#32 else x <<< 1

/-- A bit at the highest place. -/
def topB (one : Bool) : BitVec 32 := if one then 2147483648#32 else 0#32

/-- A register that took a bit. -/
def bitV (x : BitVec 32) (one : Bool) : BitVec 32 := stepV (x ^^^ topB one)

def stepsV : Nat → BitVec 32 → BitVec 32
  | 0, x => x
  | k + 1, x => stepsV k (stepV x)

/-- A byte's bits, the highest first. -/
def bits8 (c : UInt8) : List Bool := [c.toNat.testBit 7, c.toNat.testBit 6, c.toNat.testBit 5, c.toNat.testBit 4, c.toNat.testBit 3, c.toNat.testBit 2, c.toNat.testBit 1, c.toNat.testBit 0]

def bitsL : List UInt8 → List Bool
  | [] => []
  | c :: l => bits8 c ++ bitsL l

/-- A register that took bytes. -/
def runV (x : BitVec 32) (l : List UInt8) : BitVec 32 := (bitsL l).foldl bitV x

/-- The sum of bytes. -/
def sumV (l : List UInt8) : BitVec 32 := ~~~ (runV (4294967295#32) l)

theorem bitsL_append (a b : List UInt8) : bitsL (a ++ b) = bitsL a ++ bitsL b := by
  induction a with
  | nil => rfl
  | cons c a ih => simp [bitsL, ih]

theorem runV_nil (x : BitVec 32) : runV x [] = x := rfl
theorem runV_append (x : BitVec 32) (a b : List UInt8) : runV x (a ++ b) = runV (runV x a) b := by
  unfold runV; rw [bitsL_append, List.foldl_append]
theorem runV_cons (x : BitVec 32) (c : UInt8) (l : List UInt8) : runV x (c :: l) = runV (runV x [c]) l := by
  have := runV_append x [c] l
  simpa using this

/-! linear -/
theorem msb_top (one : Bool) : (topB one).msb = one := by cases one <;> decide

theorem stepV_xor (x y : BitVec 32) : stepV (x ^^^ y) = stepV x ^^^ stepV y := by
  unfold stepV
  rw [BitVec.msb_xor, BitVec.shiftLeft_xor_distrib]
  cases x.msb <;> cases y.msb <;> simp
  · ac_rfl
  · ac_rfl
  · have : ∀ a b p : BitVec 32, a ^^^ b = a ^^^ p ^^^ (b ^^^ p) := by
      intro a b p
      rw [show a ^^^ p ^^^ (b ^^^ p) = a ^^^ b ^^^ (p ^^^ p) by ac_rfl]; simp
    exact this _ _ _

theorem stepV_zero : stepV 0#32 = 0#32 := by decide

theorem stepV_ker (x : BitVec 32) (h : stepV x = 0#32) : x = 0#32 := by
  unfold stepV at h
  have h2 := congrArg BitVec.toNat h
  have hx := x.isLt
  rw [BitVec.msb_eq_decide] at h2
  by_cases hm : 2 ^ (32 - 1) ≤ x.toNat
  · rw [if_pos (by simpa using hm)] at h2
    have h3 := congrArg (fun n => Nat.testBit n 0) h2
    rw [BitVec.toNat_xor] at h3
    simp at h3
  · rw [if_neg (by simpa using hm)] at h2
    simp [Nat.shiftLeft_eq] at h2
    apply BitVec.eq_of_toNat_eq
    simp
    omega

theorem xor_self_zero {a b : BitVec 32} (h : a ^^^ b = 0#32) : a = b := by
  have : a ^^^ b ^^^ b = 0#32 ^^^ b := by rw [h]
  rw [show a ^^^ b ^^^ b = a ^^^ (b ^^^ b) by ac_rfl] at this
  simpa using this

theorem stepV_inj {x y : BitVec 32} (h : stepV x = stepV y) : x = y := by
  apply xor_self_zero
  apply stepV_ker
  rw [stepV_xor, h]; simp

theorem bitV_inj {x y : BitVec 32} {one : Bool} (h : bitV x one = bitV y one) : x = y := by
  have := stepV_inj h
  have h2 : x ^^^ topB one ^^^ topB one = y ^^^ topB one ^^^ topB one := by rw [this]
  rw [show x ^^^ topB one ^^^ topB one = x ^^^ (topB one ^^^ topB one) by ac_rfl, show y ^^^ topB one ^^^ topB one = y ^^^ (topB one ^^^ topB one) by ac_rfl] at h2
  simpa using h2

theorem fold_inj (u : List Bool) : ∀ {x y : BitVec 32}, u.foldl bitV x = u.foldl bitV y → x = y := by
  induction u with
  | nil => intro x y h; exact h
  | cons b u ih => intro x y h; exact bitV_inj (ih h)

/-- Bits laid at the top of a register. -/
def topV : List Bool → BitVec 32
  | [] => 0#32
  | b :: u => topB b ^^^ (topV u >>> 1)

theorem stepsV_xor (k : Nat) : ∀ x y : BitVec 32, stepsV k (x ^^^ y) = stepsV k x ^^^ stepsV k y := by
  induction k with
  | zero => intro x y; rfl
  | succ k ih => intro x y; show stepsV k (stepV (x ^^^ y)) = _; rw [stepV_xor, ih]; rfl

theorem stepsV_inj (k : Nat) : ∀ {x y : BitVec 32}, stepsV k x = stepsV k y → x = y := by
  induction k with
  | zero => intro x y h; exact h
  | succ k ih => intro x y h; exact stepV_inj (ih h)

/-- The lower places of a short row of bits at the top are free. -/
theorem topV_low (u : List Bool) : ∀ i, i + u.length < 32 → (topV u).getLsbD i = false := by
  induction u with
  | nil => intro i h; simp [topV]
  | cons b u ih =>
    intro i h
    simp only [List.length_cons] at h
    have h1 : (topB b).getLsbD i = false := by
      cases b
      · simp [topB]
      · simp only [topB, if_true]
        have : i < 31 := by omega
        rw [show (2147483648#32) = BitVec.twoPow 32 31 by decide, BitVec.getLsbD_twoPow]
        simp; omega
    simp [topV, h1, ih (1 + i) (by omega)]

theorem step_shift (u : List Bool) (h : u.length < 32) : stepV (topV u >>> 1) = topV u := by
  have hm : (topV u >>> 1).msb = false := by
    rw [BitVec.msb_eq_decide]
    have := (topV u).isLt
    simp [Nat.shiftRight_eq_div_pow]
    omega
  unfold stepV
  rw [hm]
  simp only [Bool.false_eq_true, if_false]
  have h0 := topV_low u 0 (by omega)
  apply BitVec.eq_of_toNat_eq
  have hx := (topV u).isLt
  have : (topV u).toNat % 2 = 0 := by
    have : (topV u).toNat.testBit 0 = false := h0
    rw [Nat.testBit_zero] at this
    simpa using this
  simp [Nat.shiftLeft_eq, Nat.shiftRight_eq_div_pow]
  omega

theorem fold_top (u : List Bool) : ∀ (x : BitVec 32), u.length ≤ 32 → u.foldl bitV x = stepsV u.length (x ^^^ topV u) := by
  induction u with
  | nil => intro x _; simp [stepsV, topV]
  | cons b u ih =>
    intro x h
    simp only [List.length_cons] at h
    show u.foldl bitV (bitV x b) = stepsV u.length (stepV (x ^^^ (topB b ^^^ (topV u >>> 1))))
    rw [ih (bitV x b) (by omega)]
    congr 1
    rw [show x ^^^ (topB b ^^^ (topV u >>> 1)) = (x ^^^ topB b) ^^^ (topV u >>> 1) by ac_rfl, stepV_xor, step_shift u (by omega)]
    rfl

theorem topV_inj (u : List Bool) : ∀ v : List Bool, u.length = v.length → u.length ≤ 32 → topV u = topV v → u = v := by
  intro v hl h32 h
  have key : ∀ (u : List Bool), u.length ≤ 32 → ∀ i, i < u.length → (topV u).getLsbD (31 - i) = u[i]! := by
    intro u
    induction u with
    | nil => intro _ i hi; simp at hi
    | cons b u ih =>
      intro hu i hi
      simp only [List.length_cons] at hi hu
      cases i with
      | zero =>
        have h1 : (topV u >>> 1).getLsbD 31 = false := by simp
        have h2 : (topB b).getLsbD 31 = b := by cases b <;> decide
        show (topB b ^^^ (topV u >>> 1)).getLsbD 31 = _
        rw [BitVec.getLsbD_xor, h1, h2]
        simp
      | succ i =>
        have h2 : (topB b).getLsbD (31 - (i + 1)) = false := by
          cases b
          · simp [topB]
          · simp only [topB, if_true]
            rw [show (2147483648#32) = BitVec.twoPow 32 31 by decide, BitVec.getLsbD_twoPow]
            simp; omega
        have h3 := ih (by omega) i (by omega)
        have h4 : (topV u >>> 1).getLsbD (31 - (i + 1)) = (topV u).getLsbD (31 - i) := by
          rw [BitVec.getLsbD_ushiftRight]; congr 1; omega
        simp only [topV, BitVec.getLsbD_xor, h2, h4, h3]
        simp
  apply List.ext_getElem hl
  intro i h1 h2
  have a := key u h32 i h1
  have b := key v (by omega) i h2
  rw [h, b] at a
  rw [getElem!_pos u i h1, getElem!_pos v i h2] at a
  exact a.symm

/-- THE BURST: two rows of bits of one length that agree outside 32 places on end, and give one register, are one. -/
theorem burst (u v : List Bool) (x : BitVec 32) (a : Nat) (hl : u.length = v.length)
    (hout : ∀ p, p < a ∨ a + 32 ≤ p → u[p]? = v[p]?) (h : u.foldl bitV x = v.foldl bitV x) : u = v := by
  have e1 : u.take a = v.take a := by
    apply List.ext_getElem?
    intro p
    rw [List.getElem?_take, List.getElem?_take]
    by_cases hp : p < a
    · simp [hp, hout p (Or.inl hp)]
    · simp [hp]
  have e3 : (u.drop a).drop 32 = (v.drop a).drop 32 := by
    apply List.ext_getElem?
    intro p
    simp only [List.drop_drop, List.getElem?_drop]
    exact hout _ (Or.inr (by omega))
  have su : u = u.take a ++ ((u.drop a).take 32 ++ (u.drop a).drop 32) := by rw [List.take_append_drop, List.take_append_drop]
  have sv : v = v.take a ++ ((v.drop a).take 32 ++ (v.drop a).drop 32) := by rw [List.take_append_drop, List.take_append_drop]
  rw [su, sv, List.foldl_append, List.foldl_append, List.foldl_append, List.foldl_append, e1, e3] at h
  have h2 := fold_inj _ h
  have l2 : ((u.drop a).take 32).length = ((v.drop a).take 32).length := by simp [hl]
  have b2 : ((u.drop a).take 32).length ≤ 32 := List.length_take_le _ _
  rw [fold_top ((u.drop a).take 32) _ b2, fold_top ((v.drop a).take 32) _ (by omega), ← l2] at h2
  have h3 := stepsV_inj _ h2
  have h4 : topV ((u.drop a).take 32) = topV ((v.drop a).take 32) := by
    have := congrArg (fun z => (v.take a).foldl bitV x ^^^ z) h3
    simp only [← BitVec.xor_assoc, BitVec.xor_self, BitVec.zero_xor] at this
    exact this
  have h5 := topV_inj _ _ l2 b2 h4
  rw [su, sv, e1, e3, h5]

/-! bytes and bits -/
theorem bits8_length (c : UInt8) : (bits8 c).length = 8 := rfl
theorem bitsL_length (l : List UInt8) : (bitsL l).length = 8 * l.length := by
  induction l with
  | nil => rfl
  | cons c l ih => simp [bitsL, ih, bits8_length]; omega

/-- The bit at a place of bytes. -/
def bitAt (l : List UInt8) (p : Nat) : Bool := (l.getD (p / 8) 0).toNat.testBit (7 - p % 8)

theorem bits8_get (c : UInt8) (p : Nat) (h : p < 8) : (bits8 c)[p]? = some (c.toNat.testBit (7 - p)) := by
  rcases (by omega : p = 0 ∨ p = 1 ∨ p = 2 ∨ p = 3 ∨ p = 4 ∨ p = 5 ∨ p = 6 ∨ p = 7) with rfl | rfl | rfl | rfl | rfl | rfl | rfl | rfl <;> rfl

theorem bitsL_get (l : List UInt8) : ∀ p, p < 8 * l.length → (bitsL l)[p]? = some (bitAt l p) := by
  induction l with
  | nil => intro p h; simp at h
  | cons c l ih =>
    intro p h
    simp only [List.length_cons] at h
    by_cases hp : p < 8
    · rw [bitsL, List.getElem?_append_left (by rw [bits8_length]; omega), bits8_get c p hp]
      simp [bitAt, show p / 8 = 0 by omega, show p % 8 = p by omega]
    · rw [bitsL, List.getElem?_append_right (by rw [bits8_length]; omega), bits8_length, ih (p - 8) (by omega)]
      simp only [bitAt]
      rw [show p / 8 = (p - 8) / 8 + 1 by omega, show (p - 8) % 8 = p % 8 by omega]
      simp

theorem bits8_inj (c d : UInt8) (h : bits8 c = bits8 d) : c = d := by
  have key : ∀ n : Fin 256, (bits8 (UInt8.ofNat n.val)).foldl (fun a b => 2 * a + (if b then 1 else 0)) 0 = n.val := by decide +kernel
  have hc := key ⟨c.toNat, c.toNat_lt⟩
  have hd := key ⟨d.toNat, d.toNat_lt⟩
  simp only [UInt8.ofNat_toNat] at hc hd
  rw [h, hd] at hc
  exact UInt8.toNat_inj.1 hc.symm

theorem bitsL_inj : ∀ (a b : List UInt8), bitsL a = bitsL b → a = b := by
  intro a
  induction a with
  | nil =>
    intro b h
    have := congrArg List.length h
    rw [bitsL_length, bitsL_length] at this
    simp only [List.length_nil] at this
    exact (List.length_eq_zero_iff.1 (by omega : b.length = 0)).symm
  | cons c a ih =>
    intro b h
    cases b with
    | nil => have := congrArg List.length h; rw [bitsL_length, bitsL_length] at this; simp at this
    | cons d b =>
      have h2 := List.append_inj h (by rw [bits8_length, bits8_length])
      rw [bits8_inj c d h2.1, ih b h2.2]

/-- Two texts of one length that agree outside 32 bits on end. -/
def Near (a : Nat) (b : Nat) (l m : List UInt8) : Prop := m.length = l.length ∧ ∀ p, p < a ∨ b ≤ p → bitAt m p = bitAt l p

theorem near_refl (a : Nat) (l : List UInt8) : Near a a l l := ⟨rfl, fun _ _ => rfl⟩
theorem near_mono {a b c : Nat} {l m : List UInt8} (h : Near a b l m) (hbc : b ≤ c) : Near a c l m := ⟨h.1, fun p hp => h.2 p (by omega)⟩

/-- A bit is turned over at place p. -/
theorem near_flip {a p : Nat} {l m : List UInt8} (h : Near a p l m) (hp : a ≤ p) (h8 : p / 8 < m.length) (c : UInt8)
    (hc : c.toNat = (m.getD (p / 8) 0).toNat ^^^ 2 ^ (7 - p % 8)) : Near a (p + 1) l (m.set (p / 8) c) := by
  refine ⟨by simp [h.1], fun q hq => ?_⟩
  rw [← h.2 q (by omega)]
  unfold bitAt
  by_cases e : q / 8 = p / 8
  · rw [e, List.getD_eq_getElem?_getD, List.getElem?_set]
    simp only [h8, if_true, Option.getD_some]
    rw [hc, Nat.testBit_xor, Nat.testBit_two_pow]
    have : ¬ (7 - p % 8 = 7 - q % 8) := by omega
    simp [this]
  · rw [List.getD_eq_getElem?_getD, List.getD_eq_getElem?_getD, List.getElem?_set]
    rw [if_neg (fun h => e h.symm)]

theorem sum_near {a : Nat} {l m : List UInt8} (h : Near a (a + 32) l m) (hs : sumV l = sumV m) : l = m := by
  have hr : runV (4294967295#32) l = runV (4294967295#32) m := by
    have := congrArg (fun z => ~~~ z) hs
    simpa [sumV] using this
  apply bitsL_inj
  refine burst _ _ _ a (by rw [bitsL_length, bitsL_length, h.1]) (fun p hp => ?_) hr
  by_cases hl : p < 8 * l.length
  · rw [bitsL_get l p hl, bitsL_get m p (by rw [h.1]; exact hl), h.2 p hp]
  · rw [List.getElem?_eq_none (by rw [bitsL_length]; omega), List.getElem?_eq_none (by rw [bitsL_length, h.1]; omega)]

/-! what the walks reckon -/
theorem stepV_toNat (x : BitVec 32) : (stepV x).toNat = if 2147483648 ≤ x.toNat then (2 * x.toNat % 4294967296) ^^^ 79764919 else 2 * x.toNat % 4294967296 := by
  unfold stepV
  rw [BitVec.msb_eq_decide]
  by_cases h : 2147483648 ≤ x.toNat
  · rw [if_pos (by simpa using h), if_pos h, BitVec.toNat_xor]
    simp [Nat.shiftLeft_eq, Nat.mul_comm]
  · rw [if_neg (by simpa using h), if_neg h]
    simp [Nat.shiftLeft_eq, Nat.mul_comm]

theorem top_xor (n : Nat) (h : n < 4294967296) : n ^^^ 2147483648 = if 2147483648 ≤ n then n - 2147483648 else n + 2147483648 := by
  have e : n = (n / 2147483648) * 2147483648 + n % 2147483648 := by omega
  have hb : n % 2147483648 < 2 ^ 31 := by omega
  by_cases hm : 2147483648 ≤ n
  · have h1 : n / 2147483648 = 1 := by omega
    rw [if_pos hm]
    apply Nat.eq_of_testBit_eq
    intro i
    rw [Nat.testBit_xor]
    have hn : n = 2 ^ 31 + n % 2147483648 := by omega
    rw [show (2147483648 : Nat) = 2 ^ 31 from rfl, Nat.testBit_two_pow]
    by_cases hi : i < 31
    · rw [hn, Nat.testBit_two_pow_add_gt hi]
      have : ¬ (31 = i) := by omega
      simp [this]
    · by_cases hi2 : i = 31
      · subst hi2
        rw [hn, Nat.testBit_two_pow_add_eq, Nat.testBit_lt_two_pow hb]
        rw [Nat.testBit_lt_two_pow (by omega)]; simp
      · have l1 : n < 2 ^ i := Nat.lt_of_lt_of_le (by omega : n < 2 ^ 32) (Nat.pow_le_pow_right (by omega) (by omega))
        rw [Nat.testBit_lt_two_pow l1, Nat.testBit_lt_two_pow (by omega)]
        have : ¬ (31 = i) := by omega
        simp [this]
  · rw [if_neg hm]
    have hn : n < 2 ^ 31 := by omega
    apply Nat.eq_of_testBit_eq
    intro i
    rw [Nat.testBit_xor, show (2147483648 : Nat) = 2 ^ 31 from rfl, Nat.testBit_two_pow, Nat.add_comm]
    by_cases hi : i < 31
    · rw [Nat.testBit_two_pow_add_gt hi]
      have : ¬ (31 = i) := by omega
      simp [this]
    · by_cases hi2 : i = 31
      · subst hi2
        rw [Nat.testBit_two_pow_add_eq, Nat.testBit_lt_two_pow hn]; simp
      · have l0 : 2 ^ 32 ≤ 2 ^ i := Nat.pow_le_pow_right (by omega) (by omega)
        rw [Nat.testBit_lt_two_pow (by omega : n < 2 ^ i), Nat.testBit_lt_two_pow (by omega : 2 ^ 31 + n < 2 ^ i)]
        have : ¬ (31 = i) := by omega
        simp [this]

theorem bitV_toNat (x : BitVec 32) (one : Bool) : (bitV x one).toNat = if decide (2147483648 ≤ x.toNat) != one then (2 * x.toNat % 4294967296) ^^^ 79764919 else 2 * x.toNat % 4294967296 := by
  have hx := x.isLt
  unfold bitV
  rw [stepV_toNat, BitVec.toNat_xor]
  cases one
  · simp only [topB, Bool.false_eq_true, if_false]
    rw [show (0#32).toNat = 0 from rfl, Nat.xor_zero]
    simp
  · simp only [topB, if_true]
    rw [show (2147483648#32).toNat = 2147483648 from rfl, top_xor _ (by omega)]
    by_cases h : 2147483648 ≤ x.toNat
    · simp only [h, if_true]
      rw [if_neg (by omega)]
      simp; omega
    · simp only [h, if_false]
      rw [if_pos (by omega), show 2 * (x.toNat + 2147483648) % 4294967296 = 2 * x.toNat % 4294967296 by omega]
      simp

/-- A byte in one go: its bits at the top, and eight steps. -/
theorem byteV_eq (x : BitVec 32) (c : UInt8) : runV x [c] = stepsV 8 (x ^^^ BitVec.ofNat 32 (c.toNat * 16777216)) := by
  have key : ∀ n : Fin 256, topV (bits8 (UInt8.ofNat n.val)) = BitVec.ofNat 32 (n.val * 16777216) := by decide +kernel
  have hc := key ⟨c.toNat, c.toNat_lt⟩
  simp only [UInt8.ofNat_toNat] at hc
  show (bits8 c ++ []).foldl bitV x = _
  rw [List.append_nil, fold_top _ _ (by rw [bits8_length]; omega), hc, bits8_length]

end Go.Proofs.Ytooikkjgcpngdaa.Fr
