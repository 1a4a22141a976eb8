/-
  What is put is got, and what is got is put as it was: plain facts of sectors.
-/
import Derived.Test.YtooikkjgcpngdaaFrameGet
namespace Go.Proofs.Ytooikkjgcpngdaa.Fr

theorem fold_val (l : List UInt8) : ∀ a, l.foldl (fun n c => 256 * n + c.toNat) a = a * 256 ^ l.length + valL l := by
  induction l with
  | nil => intro a; simp [valL]
  | cons c l ih =>
    intro a
    have h0 := ih (256 * 0 + c.toNat)
    have e0 : valL (c :: l) = c.toNat * 256 ^ l.length + valL l := by
      show l.foldl (fun n c => 256 * n + c.toNat) (256 * 0 + c.toNat) = _
      rw [h0]; simp
    rw [List.foldl_cons, ih, e0, List.length_cons, Nat.pow_succ, Nat.add_mul, Nat.mul_comm 256 a, Nat.mul_assoc a, Nat.mul_comm 256]
    omega
theorem val_be (n : Nat) : ∀ x, valL (beL n x) = x % 256 ^ n := by
  induction n with
  | zero => intro x; simp [beL, valL, Nat.mod_one]
  | succ n ih =>
    intro x
    have e : valL (beL (n + 1) x) = (UInt8.ofNat (x / 256 ^ n % 256)).toNat * 256 ^ n + valL (beL n x) := by
      show (beL n x).foldl (fun n c => 256 * n + c.toNat) (256 * 0 + (UInt8.ofNat (x / 256 ^ n % 256)).toNat) = _
      rw [fold_val, beL_len]; simp
    have hm : (UInt8.ofNat (x / 256 ^ n % 256)).toNat = x / 256 ^ n % 256 := by
      rw [UInt8.toNat_ofNat']
      exact Nat.mod_eq_of_lt (Nat.mod_lt _ (by decide))
    rw [e, hm, ih, Nat.pow_succ, Nat.mod_mul, Nat.mul_comm (x / 256 ^ n % 256)]
    omega
theorem be_val (l : List UInt8) : ∀ a, beL l.length (a * 256 ^ l.length + valL l) = l := by
  induction l with
  | nil => intro a; rfl
  | cons c l ih =>
    intro a
    have hv := valL_lt l l.length (Nat.le_refl _)
    have hp : 0 < 256 ^ l.length := Nat.pow_pos (by decide)
    have e0 : valL (c :: l) = c.toNat * 256 ^ l.length + valL l := by
      show l.foldl (fun n c => 256 * n + c.toNat) (256 * 0 + c.toNat) = _
      rw [fold_val]; simp
    have e1 : a * 256 ^ (l.length + 1) + valL (c :: l) = (256 * a + c.toNat) * 256 ^ l.length + valL l := by
      rw [e0, Nat.pow_succ, Nat.add_mul, Nat.mul_comm 256 a, Nat.mul_assoc a, Nat.mul_comm 256]
      omega
    rw [List.length_cons, e1]
    show UInt8.ofNat (((256 * a + c.toNat) * 256 ^ l.length + valL l) / 256 ^ l.length % 256) :: beL l.length _ = c :: l
    rw [ih]
    congr 1
    rw [Nat.mul_comm, Nat.mul_add_div hp, Nat.div_eq_of_lt hv]
    have hc := c.toNat_lt
    rw [show (256 * a + c.toNat + 0) % 256 = c.toNat by omega]
    apply UInt8.toNat_inj.1
    rw [UInt8.toNat_ofNat', Nat.mod_eq_of_lt hc]
theorem be_val0 (l : List UInt8) (n : Nat) (h : l.length = n) : beL n (valL l) = l := by
  have := be_val l 0
  rw [Nat.zero_mul, Nat.zero_add, h] at this
  exact this

theorem ext_data (s : ByteArray) (a b : Nat) : (s.extract a b).data.toList = (s.data.toList.drop a).take (b - a) := Lib.extract_data s a b
theorem head_data (gen seq : Nat) (p : ByteArray) : (headB gen seq p).data.toList = beL 2 p.size ++ beL 4 gen ++ beL 4 seq := by
  simp only [headB, Go.Joins.data_append, be_data]
theorem sec_data (gen seq : Nat) (p : ByteArray) (size : Nat) : (secB gen seq p size).data.toList = beL 2 p.size ++ (beL 4 gen ++ (beL 4 seq ++ (putL (sumV (headB gen seq p ++ p).data.toList) ++ (p.data.toList ++ List.replicate (size - (14 + p.size)) 0)))) := by
  simp only [secB, Go.Joins.data_append, head_data, putB_data, zer_data, List.append_assoc]
theorem len_data' (s : ByteArray) : s.data.toList.length = s.size := by simp
theorem putL_len (x : BitVec 32) : (putL x).length = 4 := rfl
theorem sec_size (gen seq : Nat) (p : ByteArray) (size : Nat) (h : p.size + 14 ≤ size) : (secB gen seq p size).size = size := by
  rw [← len_data', sec_data]
  simp only [List.length_append, beL_len, putL_len, List.length_replicate, len_data']
  omega

/-- A list's piece behind so many. -/
theorem piece (a b c : List UInt8) (i j : Nat) (hi : a.length = i) (hj : b.length = j) : ((a ++ (b ++ c)).drop i).take j = b := by
  subst hi hj
  rw [List.drop_left, List.take_left]

theorem sec_parts (gen seq : Nat) (p : ByteArray) (size : Nat) (hp : p.size < 65536) (hg : gen < 4294967296) (hq : seq < 4294967296) :
    lenV (secB gen seq p size) = p.size ∧ valL ((secB gen seq p size).extract 2 6).data.toList = gen ∧ valL ((secB gen seq p size).extract 6 10).data.toList = seq ∧
    (secB gen seq p size).extract 10 14 = putB (sumV (headB gen seq p ++ p).data.toList) ∧ (secB gen seq p size).extract 14 (14 + p.size) = p ∧ (secB gen seq p size).extract 0 10 = headB gen seq p ∧ (secB gen seq p size).data.toList.drop (14 + p.size) = List.replicate (size - (14 + p.size)) 0 := by
  have hd := sec_data gen seq p size
  obtain ⟨u, hu⟩ : ∃ u, u = putL (sumV (headB gen seq p ++ p).data.toList) := ⟨_, rfl⟩
  have hul : u.length = 4 := by rw [hu]; rfl
  rw [← hu] at hd
  have hd3 : (secB gen seq p size).data.toList = (beL 2 p.size ++ beL 4 gen ++ beL 4 seq) ++ (u ++ (p.data.toList ++ List.replicate (size - (14 + p.size)) 0)) := by rw [hd]; simp only [List.append_assoc]
  have hd4 : (secB gen seq p size).data.toList = (beL 2 p.size ++ beL 4 gen ++ beL 4 seq ++ u) ++ (p.data.toList ++ List.replicate (size - (14 + p.size)) 0) := by rw [hd]; simp only [List.append_assoc]
  have hd5 : (secB gen seq p size).data.toList = (beL 2 p.size ++ beL 4 gen ++ beL 4 seq ++ u ++ p.data.toList) ++ List.replicate (size - (14 + p.size)) 0 := by rw [hd]; simp only [List.append_assoc]
  have hl10 : (beL 2 p.size ++ beL 4 gen ++ beL 4 seq).length = 10 := by simp [beL_len]
  refine ⟨?_, ?_, ?_, ?_, ?_, ?_, ?_⟩
  · unfold lenV
    rw [ext_data, hd, List.drop_zero, show 2 - 0 = (beL 2 p.size).length by rw [beL_len], List.take_left, val_be, Nat.mod_eq_of_lt hp]
  · rw [ext_data, hd, piece (beL 2 p.size) (beL 4 gen) _ 2 4 (beL_len _ _) (beL_len _ _), val_be, Nat.mod_eq_of_lt hg]
  · rw [ext_data, hd, ← List.append_assoc, piece (beL 2 p.size ++ beL 4 gen) (beL 4 seq) _ 6 4 (by simp [beL_len]) (beL_len _ _), val_be, Nat.mod_eq_of_lt hq]
  · apply data_inj
    rw [ext_data, hd3, piece _ u _ 10 4 hl10 hul, putB_data, hu]
  · apply data_inj
    rw [ext_data, hd4, show 14 + p.size - 14 = p.size by omega]
    exact piece _ p.data.toList _ 14 p.size (by rw [List.length_append, hl10, hul]) (len_data' p)
  · apply data_inj
    rw [ext_data, hd3, head_data, List.drop_zero, show 10 - 0 = (beL 2 p.size ++ beL 4 gen ++ beL 4 seq).length by rw [hl10], List.take_left]
  · rw [hd5, show 14 + p.size = (beL 2 p.size ++ beL 4 gen ++ beL 4 seq ++ u ++ p.data.toList).length by rw [List.length_append, List.length_append, hl10, hul, len_data'], List.drop_left]

/-- What is put is a sector with just that record. -/
theorem sec_rec (gen seq : Nat) (p : ByteArray) (size : Nat) (h1 : 128 ≤ size) (h2 : size ≤ 1024) (hp : p.size + 14 ≤ size) (hg : gen < 4294967296) (hq : seq < 4294967296) :
    Rec (secB gen seq p size) ∧ some4 (secB gen seq p size) = .tuple #[.int .i64 (gen : Int), .int .i64 (seq : Int), .string p, .bool true] := by
  obtain ⟨a1, a2, a3, a4, a5, a6, a7⟩ := sec_parts gen seq p size (by omega) hg hq
  have hs := sec_size gen seq p size hp
  refine ⟨⟨by omega, by omega, by omega, ?_, ?_⟩, ?_⟩
  · unfold zeroV
    rw [a1, a7, List.all_eq_true]
    intro c hc
    rw [List.eq_of_mem_replicate hc]
    rfl
  · unfold sumOk
    rw [a1, a5, a6, a4]
  · unfold some4
    rw [a1, a2, a3, a5]

/-- A sector's record, put again, is that sector. -/
theorem rec_sec (s : ByteArray) (h : Rec s) : secB (valL (s.extract 2 6).data.toList) (valL (s.extract 6 10).data.toList) (s.extract 14 (14 + lenV s)) s.size = s := by
  obtain ⟨h1, h2, h3, h4, h5⟩ := h
  have hL := len_data' s
  have hps : (s.extract 14 (14 + lenV s)).size = lenV s := by rw [← len_data', ext_data, List.length_take, List.length_drop]; omega
  have l2 : ((s.data.toList.drop 0).take 2).length = 2 := by rw [List.length_take, List.length_drop]; omega
  have l4 : ((s.data.toList.drop 2).take 4).length = 4 := by rw [List.length_take, List.length_drop]; omega
  have l6 : ((s.data.toList.drop 6).take 4).length = 4 := by rw [List.length_take, List.length_drop]; omega
  have b2 : beL 2 (lenV s) = (s.data.toList.drop 0).take 2 := by unfold lenV; rw [ext_data]; exact be_val0 _ 2 l2
  have b4 : beL 4 (valL (s.extract 2 6).data.toList) = (s.data.toList.drop 2).take 4 := by rw [ext_data]; exact be_val0 _ 4 l4
  have b6 : beL 4 (valL (s.extract 6 10).data.toList) = (s.data.toList.drop 6).take 4 := by rw [ext_data]; exact be_val0 _ 4 l6
  have cut : ∀ (l : List UInt8) (i j : Nat), (l.drop i).take j ++ l.drop (i + j) = l.drop i := by
    intro l i j
    rw [← List.drop_drop, List.take_append_drop]
  have hh : headB (valL (s.extract 2 6).data.toList) (valL (s.extract 6 10).data.toList) (s.extract 14 (14 + lenV s)) = s.extract 0 10 := by
    apply data_inj
    rw [head_data, hps, b2, b4, b6, ext_data, List.drop_zero]
    have e : s.data.toList.take 10 = s.data.toList.take 2 ++ ((s.data.toList.drop 2).take 4 ++ (s.data.toList.drop 6).take 4) := by
      rw [show 10 = 2 + (4 + 4) from rfl, List.take_add, List.take_add, List.drop_drop]
    rw [show 10 - 0 = 10 from rfl, e, List.append_assoc]
  have hz : s.data.toList.drop (14 + lenV s) = List.replicate (s.size - (14 + lenV s)) 0 := by
    unfold zeroV at h4
    rw [List.all_eq_true] at h4
    apply List.eq_replicate_iff.2
    refine ⟨by rw [List.length_drop, hL], fun c hc => ?_⟩
    have := h4 c hc
    simpa using this
  unfold sumOk at h5
  apply data_inj
  rw [sec_data, hh, hps, b2, b4, b6, ← hz]
  have hu : putL (sumV (s.extract 0 10 ++ s.extract 14 (14 + lenV s)).data.toList) = (s.data.toList.drop 10).take 4 := by
    rw [← putB_data, ← h5, ext_data]
  rw [hu, ext_data, show 14 + lenV s - 14 = lenV s by omega, cut s.data.toList 14 (lenV s), cut s.data.toList 10 4, cut s.data.toList 6 4, cut s.data.toList 2 4, cut s.data.toList 0 2, List.drop_zero]

/-- Two records of one size have one sector just if they are the same. -/
theorem sec_inj (g1 q1 g2 q2 : Nat) (p1 p2 : ByteArray) (size : Nat) (h1 : p1.size < 65536) (h2 : p2.size < 65536) (hg1 : g1 < 4294967296) (hq1 : q1 < 4294967296) (hg2 : g2 < 4294967296) (hq2 : q2 < 4294967296) (h : secB g1 q1 p1 size = secB g2 q2 p2 size) : g1 = g2 ∧ q1 = q2 ∧ p1 = p2 := by
  obtain ⟨a1, a2, a3, _, a5, _, _⟩ := sec_parts g1 q1 p1 size h1 hg1 hq1
  obtain ⟨b1, b2, b3, _, b5, _, _⟩ := sec_parts g2 q2 p2 size h2 hg2 hq2
  rw [h] at a1 a2 a3 a5
  have e : p1.size = p2.size := a1.symm.trans b1
  rw [e, b5] at a5
  exact ⟨a2.symm.trans b2, a3.symm.trans b3, a5.symm⟩
end Go.Proofs.Ytooikkjgcpngdaa.Fr
