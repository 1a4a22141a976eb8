/-
  Numbers as bytes in groups of seven bits: plain facts, no program.
-/
namespace Go.Proofs.YthombepmlepgfaaDoor

/-- A number's bytes. -/
def enc (n : Nat) : List UInt8 := if n < 128 then [UInt8.ofNat n] else UInt8.ofNat (128 + n % 128) :: enc (n / 128)
termination_by n
decreasing_by omega
theorem enc_low {n : Nat} (h : n < 128) : enc n = [UInt8.ofNat n] := by rw [enc, if_pos h]
theorem enc_high {n : Nat} (h : 128 ≤ n) : enc n = UInt8.ofNat (128 + n % 128) :: enc (n / 128) := by rw [enc, if_neg (by omega)]
theorem enc_pos (n : Nat) : 0 < (enc n).length := by
  by_cases h : n < 128
  · rw [enc_low h]; simp
  · rw [enc_high (by omega)]; simp
theorem enc_len : ∀ (m n : Nat), n < 128 ^ (m + 1) → (enc n).length ≤ m + 1
  | 0, n, h => by rw [enc_low (by simpa using h)]; simp
  | m + 1, n, h => by
    by_cases hn : n < 128
    · rw [enc_low hn]; simp
    · rw [enc_high (by omega)]
      have := enc_len m (n / 128) (by rw [Nat.pow_succ] at h; exact Nat.div_lt_of_lt_mul (by rw [Nat.mul_comm]; exact h))
      simp; omega
theorem enc_nine {n : Nat} (h : n < 9223372036854775808) : (enc n).length ≤ 9 := enc_len 8 n h

/-- What bytes' groups are together, the lowest first. -/
def val : List UInt8 → Nat
  | [] => 0
  | c :: r => c.toNat % 128 + 128 * val r
theorem val_append (a b : List UInt8) : val (a ++ b) = val a + 128 ^ a.length * val b := by
  induction a with
  | nil => simp [val]
  | cons c r ih =>
    rw [List.cons_append, val, val, ih, List.length_cons, Nat.pow_succ, Nat.mul_add]
    rw [Nat.mul_comm (128 ^ r.length) 128, Nat.mul_assoc]
    omega
theorem val_lt (l : List UInt8) : val l < 128 ^ l.length := by
  induction l with
  | nil => simp [val]
  | cons c r ih =>
    rw [val, List.length_cons, Nat.pow_succ]
    omega
theorem val_nine {l : List UInt8} (h : l.length ≤ 9) : val l < 9223372036854775808 :=
  Nat.lt_of_lt_of_le (val_lt l) (by
    have : 128 ^ l.length ≤ 128 ^ 9 := Nat.pow_le_pow_right (by omega) h
    simpa using this)
theorem byte_low {n : Nat} (h : n < 128) : (UInt8.ofNat n).toNat = n := by simp [UInt8.toNat_ofNat']; omega
theorem byte_high (n : Nat) : (UInt8.ofNat (128 + n % 128)).toNat = 128 + n % 128 := by simp [UInt8.toNat_ofNat']; omega
theorem val_enc (n : Nat) : val (enc n) = n := by
  induction n using Nat.strongRecOn with
  | _ n ih =>
    by_cases h : n < 128
    · rw [enc_low h, val, val, byte_low h]; omega
    · rw [enc_high (by omega), val, ih (n / 128) (by omega), byte_high]; omega

/-- How many bytes of at most m at the front say that another one follows. -/
def lead : Nat → List UInt8 → Nat
  | 0, _ => 0
  | _ + 1, [] => 0
  | m + 1, c :: r => if 128 ≤ c.toNat then lead m r + 1 else 0
theorem lead_le : ∀ (m : Nat) (l : List UInt8), lead m l ≤ m ∧ lead m l ≤ l.length
  | 0, l => by simp [lead]
  | m + 1, [] => by simp [lead]
  | m + 1, c :: r => by
    have := lead_le m r
    unfold lead
    split <;> simp <;> omega
/-- The front's number: its error, if it is none. -/
def firstE (l : List UInt8) : Nat := if lead 9 l = 9 then 5 else if lead 9 l = l.length then 4 else if 0 < lead 9 l ∧ l[lead 9 l]? = some 0 then 5 else 0
def firstN (l : List UInt8) : Nat := val (l.take (lead 9 l + 1))

theorem lead_enc : ∀ (m n : Nat) (r : List UInt8), n < 128 ^ (m + 1) → lead (m + 1) (enc n ++ r) + 1 = (enc n).length
  | 0, n, r, h => by
    have h1 : n < 128 := by simpa using h
    rw [enc_low h1, List.singleton_append, lead, byte_low h1, if_neg (by omega)]
    rfl
  | m + 1, n, r, h => by
    by_cases hn : n < 128
    · rw [enc_low hn, List.singleton_append, lead, byte_low hn, if_neg (by omega)]
      rfl
    · have := lead_enc m (n / 128) r (by rw [Nat.pow_succ] at h; exact Nat.div_lt_of_lt_mul (by rw [Nat.mul_comm]; exact h))
      rw [enc_high (by omega), List.cons_append, lead, byte_high, if_pos (by omega), List.length_cons, this]
theorem enc_last (n : Nat) : ∀ k, k + 1 = (enc n).length → 0 < k → (enc n)[k]? ≠ some 0 := by
  induction n using Nat.strongRecOn with
  | _ n ih =>
    intro k hk h0
    by_cases h : n < 128
    · rw [enc_low h] at hk; simp at hk; omega
    · rw [enc_high (by omega)] at hk ⊢
      obtain ⟨j, rfl⟩ : ∃ j, k = j + 1 := ⟨k - 1, by omega⟩
      rw [List.getElem?_cons_succ]
      rw [List.length_cons] at hk
      rcases Nat.eq_zero_or_pos j with hj | hj
      · subst hj
        by_cases h1 : n / 128 < 128
        · rw [enc_low h1]
          intro e
          simp at e
          have := congrArg UInt8.toNat e
          rw [byte_low h1] at this
          simp at this
          omega
        · rw [enc_high (by omega)] at hk
          have := enc_pos (n / 128 / 128)
          rw [List.length_cons] at hk; omega
      · exact ih (n / 128) (by omega) j (by omega) hj
theorem first_enc {n : Nat} (r : List UInt8) (h : n < 9223372036854775808) : firstE (enc n ++ r) = 0 ∧ firstN (enc n ++ r) = n ∧ lead 9 (enc n ++ r) + 1 = (enc n).length := by
  have h1 : lead 9 (enc n ++ r) + 1 = (enc n).length := lead_enc 8 n r h
  have h2 := enc_nine h
  refine ⟨?_, ?_, h1⟩
  · unfold firstE
    rw [if_neg (by omega), if_neg (by simp; omega), if_neg]
    rintro ⟨h3, h4⟩
    rw [List.getElem?_append_left (by omega)] at h4
    exact enc_last n _ h1 h3 h4
  · unfold firstN
    rw [h1, List.take_left' rfl, val_enc]
theorem val_pos : ∀ (l : List UInt8) (k : Nat) (c : UInt8), l[k]? = some c → 0 < c.toNat → c.toNat < 128 → 0 < val l
  | [], k, c, h, _, _ => by simp at h
  | d :: r, 0, c, h, h1, h2 => by
    simp at h
    subst h
    rw [val]; omega
  | d :: r, k + 1, c, h, h1, h2 => by
    have := val_pos r k c (by simpa using h) h1 h2
    rw [val]; omega
theorem lead_stop : ∀ (m : Nat) (l : List UInt8) (c : UInt8), lead m l < m → l[lead m l]? = some c → c.toNat < 128
  | 0, l, c, h, _ => by omega
  | m + 1, [], c, h, e => by simp at e
  | m + 1, d :: r, c, h, e => by
    unfold lead at h e
    split at h
    · rename_i hd
      rw [if_pos hd] at e
      exact lead_stop m r c (by omega) (by simpa using e)
    · rename_i hd
      rw [if_neg hd] at e
      simp at e
      subst e
      omega
theorem enc_take : ∀ (m : Nat) (l : List UInt8), lead m l < m → lead m l < l.length → (0 < lead m l → l[lead m l]? ≠ some 0) → enc (val (l.take (lead m l + 1))) = l.take (lead m l + 1)
  | 0, l, h, _, _ => by omega
  | m + 1, [], h, hl, _ => by simp at hl
  | m + 1, c :: r, h, hl, h0 => by
    have hc := c.toNat_lt
    by_cases hd : 128 ≤ c.toNat
    · have e : lead (m + 1) (c :: r) = lead m r + 1 := by rw [lead, if_pos hd]
      rw [e] at h hl h0 ⊢
      have hl' : lead m r < r.length := by simpa using hl
      have h0' : r[lead m r]? ≠ some 0 := by simpa using h0 (by omega)
      have ih := enc_take m r (by omega) hl' (fun _ => h0')
      rw [List.take_succ_cons, val]
      have hp : 0 < val (r.take (lead m r + 1)) := by
        refine val_pos _ (lead m r) r[lead m r] (by rw [List.getElem?_take_of_lt (by omega), List.getElem?_eq_getElem hl']) ?_ (lead_stop m r _ (by omega) (List.getElem?_eq_getElem hl'))
        rcases Nat.eq_zero_or_pos r[lead m r].toNat with hz | hz
        · exact absurd (by rw [List.getElem?_eq_getElem hl']; exact congrArg some (UInt8.toNat_inj.1 (by simpa using hz))) h0'
        · exact hz
      rw [enc_high (by omega), show (c.toNat % 128 + 128 * val (r.take (lead m r + 1))) / 128 = val (r.take (lead m r + 1)) by omega, ih]
      congr 1
      apply UInt8.toNat_inj.1
      rw [byte_high]; omega
    · have e : lead (m + 1) (c :: r) = 0 := by rw [lead, if_neg hd]
      rw [e]
      simp only [List.take_succ_cons, List.take_zero, val]
      rw [enc_low (by omega)]
      congr 1
      apply UInt8.toNat_inj.1
      rw [byte_low (by omega)]; omega
theorem first_ok {l : List UInt8} (h : firstE l = 0) : lead 9 l < 9 ∧ lead 9 l < l.length ∧ (0 < lead 9 l → l[lead 9 l]? ≠ some 0) := by
  have hl := lead_le 9 l
  unfold firstE at h
  split at h
  · cases h
  · split at h
    · cases h
    · split at h
      · cases h
      · rename_i h1 h2 h3
        exact ⟨by omega, by omega, fun h4 h5 => h3 ⟨h4, h5⟩⟩
theorem first_take {l : List UInt8} (h : firstE l = 0) : enc (firstN l) = l.take (lead 9 l + 1) ∧ firstN l < 9223372036854775808 := by
  obtain ⟨h1, h2, h3⟩ := first_ok h
  exact ⟨enc_take 9 l h1 h2 h3, val_nine (by simp; omega)⟩

/-- The numbers whose bytes these are, behind others: an error (0: none), and they. -/
def gets (acc : List Nat) (l : List UInt8) : Nat × List Nat :=
  if h : l = [] then (0, acc) else if firstE l ≠ 0 then (firstE l, []) else gets (acc ++ [firstN l]) (l.drop (lead 9 l + 1))
termination_by l.length
decreasing_by
  rw [List.length_drop]
  have : 0 < l.length := List.length_pos_iff.2 h
  omega
theorem gets_nil (acc : List Nat) : gets acc [] = (0, acc) := by rw [gets, dif_pos rfl]
theorem gets_err {acc : List Nat} {l : List UInt8} (h : l ≠ []) (he : firstE l ≠ 0) : gets acc l = (firstE l, []) := by rw [gets, dif_neg h, if_pos he]
theorem gets_ok {acc : List Nat} {l : List UInt8} (h : l ≠ []) (he : firstE l = 0) : gets acc l = gets (acc ++ [firstN l]) (l.drop (lead 9 l + 1)) := by rw [gets, dif_neg h, if_neg (by simpa using he)]

/-- Numbers' bytes. -/
def encs (ns : List Nat) : List UInt8 := ns.flatMap enc
theorem encs_nil : encs [] = [] := rfl
theorem encs_cons (n : Nat) (ns : List Nat) : encs (n :: ns) = enc n ++ encs ns := rfl
theorem encs_append (a b : List Nat) : encs (a ++ b) = encs a ++ encs b := by simp [encs]
theorem encs_snoc (a : List Nat) (n : Nat) : encs (a ++ [n]) = encs a ++ enc n := by rw [encs_append]; simp [encs]
def Small (ns : List Nat) : Prop := ∀ n ∈ ns, n < 9223372036854775808
theorem encs_len {ns : List Nat} (h : Small ns) : ns.length ≤ (encs ns).length ∧ (encs ns).length ≤ 9 * ns.length := by
  induction ns with
  | nil => simp [encs]
  | cons n ns ih =>
    have h1 := ih fun x hx => h x (List.mem_cons_of_mem _ hx)
    have h2 := enc_nine (h n (List.mem_cons_self ..))
    have h3 := enc_pos n
    rw [encs_cons, List.length_append, List.length_cons]
    omega
theorem gets_encs (ns : List Nat) (r : List UInt8) (h : Small ns) : ∀ acc, gets acc (encs ns ++ r) = gets (acc ++ ns) r := by
  induction ns with
  | nil => intro acc; simp [encs]
  | cons n ns ih =>
    intro acc
    obtain ⟨h1, h2, h3⟩ := first_enc (encs ns ++ r) (h n (List.mem_cons_self ..))
    rw [encs_cons, List.append_assoc, gets_ok (by have := enc_pos n; intro e; have := congrArg List.length e; rw [List.length_append, List.length_nil] at this; omega) h1, h2, h3, List.drop_left' rfl, ih (fun x hx => h x (List.mem_cons_of_mem _ hx)), List.append_assoc]
    rfl
theorem gets_back {ns : List Nat} (h : Small ns) : gets [] (encs ns) = (0, ns) := by
  have := gets_encs ns [] h []
  rw [List.append_nil] at this
  rw [this, gets_nil]
  rfl
theorem encs_inj {a b : List Nat} (ha : Small a) (hb : Small b) (h : encs a = encs b) : a = b := by
  have h1 := gets_back ha
  rw [h, gets_back hb] at h1
  exact (Prod.mk.inj h1).2.symm
/-- What is got is put as it was. -/
theorem gets_one (k : Nat) : ∀ (l : List UInt8) (acc : List Nat), l.length ≤ k → (gets acc l).1 = 0 → ∃ ns, (gets acc l).2 = acc ++ ns ∧ encs ns = l ∧ Small ns := by
  induction k with
  | zero =>
    intro l acc hk _
    obtain rfl := List.eq_nil_of_length_eq_zero (Nat.le_zero.1 hk)
    exact ⟨[], by rw [gets_nil]; simp, rfl, fun x hx => by cases hx⟩
  | succ k ih =>
    intro l acc hk h0
    by_cases hl : l = []
    · subst hl
      exact ⟨[], by rw [gets_nil]; simp, rfl, fun x hx => by cases hx⟩
    · by_cases he : firstE l = 0
      · rw [gets_ok hl he] at h0 ⊢
        obtain ⟨h1, h2⟩ := first_take he
        obtain ⟨ns, g1, g2, g3⟩ := ih _ _ (by rw [List.length_drop]; have : 0 < l.length := List.length_pos_iff.2 hl; omega) h0
        refine ⟨firstN l :: ns, by rw [g1]; simp, by rw [encs_cons, h1, g2, List.take_append_drop], ?_⟩
        intro x hx
        rcases List.mem_cons.1 hx with rfl | hx
        · exact h2
        · exact g3 x hx
      · rw [gets_err hl he] at h0
        exact absurd h0 he
theorem gets_no (k : Nat) : ∀ (l : List UInt8) (acc : List Nat), l.length ≤ k → (gets acc l).1 ≠ 0 → (gets acc l).2 = [] := by
  induction k with
  | zero =>
    intro l acc hk h0
    obtain rfl := List.eq_nil_of_length_eq_zero (Nat.le_zero.1 hk)
    rw [gets_nil] at h0
    exact absurd rfl h0
  | succ k ih =>
    intro l acc hk h0
    by_cases hl : l = []
    · subst hl
      rw [gets_nil] at h0
      exact absurd rfl h0
    · by_cases he : firstE l = 0
      · rw [gets_ok hl he] at h0 ⊢
        exact ih _ _ (by rw [List.length_drop]; have : 0 < l.length := List.length_pos_iff.2 hl; omega) h0
      · rw [gets_err hl he]
/-- How many numbers are got: no more than bytes. -/
theorem gets_count (k : Nat) : ∀ (l : List UInt8) (acc : List Nat), l.length ≤ k → (gets acc l).2.length ≤ acc.length + l.length := by
  induction k with
  | zero =>
    intro l acc hk
    obtain rfl := List.eq_nil_of_length_eq_zero (Nat.le_zero.1 hk)
    rw [gets_nil]; simp
  | succ k ih =>
    intro l acc hk
    by_cases hl : l = []
    · subst hl
      rw [gets_nil]; simp
    · have h0 : 0 < l.length := List.length_pos_iff.2 hl
      by_cases he : firstE l = 0
      · rw [gets_ok hl he]
        have := ih (l.drop (lead 9 l + 1)) (acc ++ [firstN l]) (by rw [List.length_drop]; omega)
        rw [List.length_drop, List.length_append] at this
        simp at this ⊢
        omega
      · rw [gets_err hl he]; simp
/-- How often a number can be cut by seven bits. -/
def cuts (n : Nat) : Nat := if n < 128 then 1 else cuts (n / 128) + 1
termination_by n
decreasing_by omega
theorem cuts_enc (n : Nat) : (enc n).length = cuts n := by
  induction n using Nat.strongRecOn with
  | _ n ih =>
    by_cases h : n < 128
    · rw [enc_low h, cuts, if_pos h]; rfl
    · rw [enc_high (by omega), cuts, if_neg h, List.length_cons, ih (n / 128) (by omega)]
end Go.Proofs.YthombepmlepgfaaDoor
