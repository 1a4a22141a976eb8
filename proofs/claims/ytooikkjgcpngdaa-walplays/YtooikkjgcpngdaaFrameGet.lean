/-
  The document's own Get of layer 6.
-/
import Derived.Test.YtooikkjgcpngdaaFramePut
import Derived.Deep.RegionHeld3
namespace Go.Proofs.Ytooikkjgcpngdaa.Fr
open Go.RowKit

theorem results_tmp4 {fn : Func} {t u v x : Tmp} (h : fn.results = #[.tmp t, .tmp u, .tmp v, .tmp x]) (tmps : Array Value) (P : Program) (w : World) :
    (results fn tmps).run P w = .ok (.tuple #[tmps.getD t undef, tmps.getD u undef, tmps.getD v undef, tmps.getD x undef]) w := by
  simp [results, h]

def none4 : Value := .tuple #[.int .i64 0, .int .i64 0, .string ⟨#[]⟩, .bool false]
/-- How many bytes the payload is said to have. -/
def lenV (s : ByteArray) : Nat := valL (s.extract 0 2).data.toList
def zeroV (s : ByteArray) : Bool := (s.data.toList.drop (14 + lenV s)).all (· == 0)
def sumOk (s : ByteArray) : Prop := s.extract 10 14 = putB (sumV (s.extract 0 10 ++ s.extract 14 (14 + lenV s)).data.toList)
/-- Is it a sector with a record? -/
def Rec (s : ByteArray) : Prop := 128 ≤ s.size ∧ s.size ≤ 1024 ∧ lenV s + 14 ≤ s.size ∧ zeroV s = true ∧ sumOk s
/-- What is got of it then. -/
def some4 (s : ByteArray) : Value := .tuple #[.int .i64 (valL (s.extract 2 6).data.toList : Int), .int .i64 (valL (s.extract 6 10).data.toList : Int), .string (s.extract 14 (14 + lenV s)), .bool true]
/-- What Get answers. -/
def Got (s : ByteArray) (e : Ending) : Prop := (Rec s ∧ e = .returned (some4 s)) ∨ (¬ Rec s ∧ e = .returned none4)

theorem zero_front {s : ByteArray} {k i : Nat} (hk : k ≤ i) (hi : i < s.size) (h : (s.data.toList.drop k).all (· == 0) = true) : s[i].toNat = 0 := by
  rw [List.all_eq_true] at h
  have h1 : s[i] ∈ s.data.toList.drop k := by
    rw [List.mem_drop_iff_getElem]
    exact ⟨i - k, by simp; omega, by simp [show k + (i - k) = i by omega]; rfl⟩
  have := h _ h1
  simp at this
  rw [this]
  rfl
theorem zero_all {s : ByteArray} {k : Nat} (h : ∀ i (hi : i < s.size), k ≤ i → s[i].toNat = 0) : (s.data.toList.drop k).all (· == 0) = true := by
  rw [List.all_eq_true]
  intro c hc
  rw [List.mem_drop_iff_getElem] at hc
  obtain ⟨j, hj, rfl⟩ := hc
  have hj' : k + j < s.size := by have : j + k < s.size := (by simpa using hj); omega
  have := h (k + j) hj' (by omega)
  simp
  apply UInt8.toNat_inj.1
  exact this
theorem str_ne {a b : ByteArray} (h : a ≠ b) : (a.toList == b.toList) = false := by
  rw [beq_eq_false_iff_ne]
  intro e
  rw [ByteArray.toList_eq, ByteArray.toList_eq] at e
  exact h (data_inj e)

set_option maxHeartbeats 400000 in
theorem fget_size (s : ByteArray) (w : World) (hs : s.size ≤ maxLen) (h : s.size < 128 ∨ 1024 < s.size) : Calls Try.prog 41 #[.string s] w fun e w' => Got s e ∧ Below w.heap.size w w' := by
  unfold maxLen at hs
  have hn : ¬ Rec s := fun hr => by have := hr.1; have := hr.2.1; omega
  have HN := Lib.hid hn
  clear hn
  by_cases h1 : s.size < 128
  · have e1 : decide ((s.size : Int) < 128) = true := by simp; omega
    go_enter Try.func41, Try.ntmps41
    go_wp2
    (try simp only [Exit.inBlock, Exit.then])
    refine bodyPost_ret (results_tmp4 rfl _ _ _) rfl ?_
    exact ⟨.inr ⟨HN.out, rfl⟩, Below.refl _ _⟩
  · have e1 : decide ((s.size : Int) < 128) = false := by simp; omega
    have e2 : decide (1024 < (s.size : Int)) = true := by simp; omega
    go_enter Try.func41, Try.ntmps41
    go_wp2
    (try simp only [Exit.inBlock, Exit.then])
    refine bodyPost_ret (results_tmp4 rfl _ _ _) rfl ?_
    exact ⟨.inr ⟨HN.out, rfl⟩, Below.refl _ _⟩

set_option maxHeartbeats 4000000 in
theorem fget_in (s : ByteArray) (w : World) (h1 : 128 ≤ s.size) (h2 : s.size ≤ 1024) : Calls Try.prog 41 #[.string s] w fun e w' => Got s e ∧ Below w.heap.size w w' := by
  have e1 : decide ((s.size : Int) < 128) = false := by simp; omega
  have e2 : decide (1024 < (s.size : Int)) = false := by simp; omega
  have i2 : (2 : Int) ≤ (s.size : Int) := by omega
  have i6 : (6 : Int) ≤ (s.size : Int) := by omega
  have i10 : (10 : Int) ≤ (s.size : Int) := by omega
  have i14 : (14 : Int) ≤ (s.size : Int) := by omega
  have k1 : ∀ W : World, (Instr.slice 9 (.string s) none (some (.int .i64 2)) none).run Try.prog W = .ok (.string (s.extract 0 2)) W := by
    intro W
    go_simp
    all_goals (intro hq; exfalso; omega)
  have k2 : ∀ W : World, (Instr.slice 9 (.string s) (some (.int .i64 10)) (some (.int .i64 14)) none).run Try.prog W = .ok (.string (s.extract 10 14)) W := by
    intro W
    go_simp
    all_goals (intro hq; exfalso; omega)
  have k3 : ∀ W : World, (Instr.slice 9 (.string s) none (some (.int .i64 10)) none).run Try.prog W = .ok (.string (s.extract 0 10)) W := by
    intro W
    go_simp
    all_goals (intro hq; exfalso; omega)
  have k5 : ∀ W : World, (Instr.slice 9 (.string s) (some (.int .i64 2)) (some (.int .i64 6)) none).run Try.prog W = .ok (.string (s.extract 2 6)) W := by
    intro W
    go_simp
    all_goals (intro hq; exfalso; omega)
  have k6 : ∀ W : World, (Instr.slice 9 (.string s) (some (.int .i64 6)) (some (.int .i64 10)) none).run Try.prog W = .ok (.string (s.extract 6 10)) W := by
    intro W
    go_simp
    all_goals (intro hq; exfalso; omega)
  obtain ⟨n, hn⟩ : ∃ n, n = lenV s := ⟨_, rfl⟩
  have hn65 : n < 65536 := by
    have := valL_lt (s.extract 0 2).data.toList 2 (by simp [ByteArray.data_extract]; omega)
    rw [hn]
    exact this
  obtain ⟨k, hk⟩ : ∃ k, k = 14 + n := ⟨_, rfl⟩
  have ek : (14 : Int) + (n : Int) = (k : Int) := by omega
  have ew : IntKind.i64.wrap (k : Int) = (k : Int) := IntWalk.i64_in _ (by omega)
  obtain ⟨t1, ht1⟩ : ∃ t, t = s.extract 0 2 := ⟨_, rfl⟩
  obtain ⟨t2, ht2⟩ : ∃ t, t = s.extract 10 14 := ⟨_, rfl⟩
  obtain ⟨t3, ht3⟩ : ∃ t, t = s.extract 0 10 := ⟨_, rfl⟩
  obtain ⟨t5, ht5⟩ : ∃ t, t = s.extract 2 6 := ⟨_, rfl⟩
  obtain ⟨t6, ht6⟩ : ∃ t, t = s.extract 6 10 := ⟨_, rfl⟩
  rw [← ht1] at k1
  rw [← ht2] at k2
  rw [← ht3] at k3
  rw [← ht5] at k5
  rw [← ht6] at k6
  have hv1 : ∀ W, Calls Try.prog 61 #[.string t1] W fun e w' => e = .returned (.int .i64 (n : Int)) ∧ W = w' := by
    intro W
    have h := value_any t1 W (by rw [ht1]; simp; omega)
    rw [show valL t1.data.toList = n by rw [ht1, hn]; rfl] at h
    exact h
  obtain ⟨n5, hn5⟩ : ∃ x, x = valL t5.data.toList := ⟨_, rfl⟩
  obtain ⟨n6, hn6⟩ : ∃ x, x = valL t6.data.toList := ⟨_, rfl⟩
  have hv5 : ∀ W, Calls Try.prog 61 #[.string t5] W fun e w' => e = .returned (.int .i64 (n5 : Int)) ∧ W = w' := by
    intro W
    rw [hn5]
    exact value_any t5 W (by rw [ht5]; simp; omega)
  have hv6 : ∀ W, Calls Try.prog 61 #[.string t6] W fun e w' => e = .returned (.int .i64 (n6 : Int)) ∧ W = w' := by
    intro W
    rw [hn6]
    exact value_any t6 W (by rw [ht6]; simp; omega)
  have HV1 := Lib.hid hv1
  have HV5 := Lib.hid hv5
  have HV6 := Lib.hid hv6
  have H5 : Hid (n5 = valL (s.extract 2 6).data.toList) := Lib.hid (by rw [hn5, ht5])
  have H6 : Hid (n6 = valL (s.extract 6 10).data.toList) := Lib.hid (by rw [hn6, ht6])
  have HN := Lib.hid hn
  have HK := Lib.hid hk
  have HT2 := Lib.hid ht2
  have HT3 := Lib.hid ht3
  clear hv1 hv5 hv6 hn5 hn6 hn hk ht1 ht2 ht3 ht5 ht6
  go_enter Try.func41, Try.ntmps41
  go_wp2_with fail
  refine (HV1.out _).mono ?_
  rintro e w' ⟨rfl, rfl⟩
  by_cases hle : n + 14 ≤ s.size
  · have e3 : decide ((s.size : Int) - 14 < (n : Int)) = false := by simp; omega
    have hks : k ≤ s.size := by have := HK.out; omega
    have hki : (k : Int) ≤ (s.size : Int) := by omega
    have hk14 : (14 : Int) ≤ (k : Int) := by omega
    have k4 : ∀ W : World, (Instr.slice 9 (.string s) (some (.int .i64 14)) (some (.int .i64 (k : Int))) none).run Try.prog W = .ok (.string (s.extract 14 k)) W := by
      intro W
      go_simp
      all_goals (intro hq; exfalso; omega)
    obtain ⟨t4, ht4⟩ : ∃ t, t = s.extract 14 k := ⟨_, rfl⟩
    rw [← ht4] at k4
    have HT4 := Lib.hid ht4
    have hsz4 : t4.size ≤ 1024 := by rw [ht4]; simp; omega
    have hsz3 : t3.size ≤ 1024 := by rw [HT3.out]; simp; omega
    obtain ⟨tt, htt⟩ : ∃ t, t3 ++ t4 = t := ⟨_, rfl⟩
    obtain ⟨X, hX⟩ : ∃ X, X = sumV tt.data.toList := ⟨_, rfl⟩
    obtain ⟨u, hu⟩ : ∃ u, u = putB X := ⟨_, rfl⟩
    have HS : Hid (∀ W, Calls Try.prog 63 #[.string tt] W fun e w' => e = .returned (.int .u32 (X.toNat : Int)) ∧ W = w') := Lib.hid (by
      intro W
      rw [hX]
      exact refSum_any tt W (by rw [← htt, ByteArray.size_append]; unfold maxLen; omega))
    have HP : Hid (∀ W, Calls Try.prog 62 #[.int .u32 (X.toNat : Int)] W fun e w' => e = .returned (.string u) ∧ Below W.heap.size W w') := Lib.hid (by
      intro W
      rw [hu]
      exact refPut_any X W)
    have HU : Hid (u = putB (sumV (s.extract 0 10 ++ s.extract 14 (14 + lenV s)).data.toList)) := Lib.hid (by rw [hu, hX, ← htt, HT3.out, ht4, HK.out, HN.out])
    have hXl : X.toNat < 4294967296 := X.isLt
    have hsm : ¬ 9223372036854775807 < t3.size + t4.size := by omega
    have kadd : ∀ W : World, (Op.stringOp .add t3 t4).run Try.prog W = .ok (.string tt) W := fun W => by rw [run_string_add_sum W t3 t4 (by omega), htt]
    clear ht4 hX hu
    go_wp2
    go_loopg [7] (s.size - k) (fun gg iv wr => ∃ i : Nat, Hid (gg = s.size - i) ∧ k ≤ i ∧ i ≤ s.size ∧ iv = .int .i64 (i : Int) ∧ Hid (∀ j (hj : j < s.size), k ≤ j → j < i → s[j].toNat = 0) ∧ w = wr)
    case atStart => exact ⟨k, Lib.hid rfl, Nat.le_refl _, hks, rfl, Lib.hid (fun j _ h1 h2 => by omega), rfl⟩
    case round =>
      obtain ⟨i, HG, hi1, hi2, rfl, HZ, rfl⟩ := hrel
      by_cases hlt : i < s.size
      · by_cases hz : s[i].toNat = 0
        · have ez : ((s[i].toNat : Int) != 0) = false := by simp [hz]
          have HZ2 := Lib.hid hz
          clear hz
          go_wp2
          go_roundg (s.size - (i + 1))
          case measure => have := HG.out; omega
          case rel =>
            refine ⟨i + 1, Lib.hid rfl, by omega, by omega, by go_num, Lib.hid (fun j hj h1 h2 => ?_), rfl⟩
            rcases Nat.lt_or_ge j i with h3 | h3
            · exact HZ.out j hj h1 h3
            · obtain rfl : j = i := by omega
              exact HZ2.out
        · have ez : ((s[i].toNat : Int) != 0) = true := by simpa using hz
          have HNR : Hid (¬ Rec s) := Lib.hid (fun hr => hz (zero_front (by have := HN.out; have := HK.out; omega) hlt hr.2.2.2.1))
          clear hz
          go_wp2
          (try simp only [Exit.inBlock, Exit.then])
          refine bodyPost_ret (results_tmp4 rfl _ _ _) rfl ?_
          exact ⟨.inr ⟨HNR.out, rfl⟩, Below.refl _ _⟩
      · obtain rfl : i = s.size := by omega
        have HZA : Hid (zeroV s = true) := Lib.hid (by
          have h := zero_all (s := s) (k := k) (fun j hj h1 => HZ.out j hj h1 hj)
          rw [HK.out, HN.out] at h
          exact h)
        by_cases hEq : t2 = u
        · have HR : Hid (Rec s) := Lib.hid ⟨h1, h2, by have := HN.out; omega, HZA.out, by unfold sumOk; rw [← HT2.out, ← HU.out]; exact hEq⟩
          subst hEq
          go_wp2
          go_region_held3 (fun _ => True) (trivial) (first | (go_at_call 63; refine (HS.out _).mono ?_; rintro e w1 ⟨rfl, rfl⟩) | (go_at_call 62; refine (HP.out _).mono ?_; rintro e w2 ⟨rfl, hb2⟩))
          have HB2 : Hid (Below w.heap.size w w2) := Lib.hid ⟨hb2.os, hb2.tape, hb2.output, hb2.size, hb2.block⟩
          clear hb2
          go_wp2
          go_region_held3 (fun _ => True) (trivial) (first | (go_at_call_of 61 t5; refine (HV5.out _).mono ?_; rintro e w3 ⟨rfl, rfl⟩) | (go_at_call_of 61 t6; refine (HV6.out _).mono ?_; rintro e w4 ⟨rfl, rfl⟩))
          go_wp2
          (try simp only [Exit.inBlock, Exit.then])
          refine bodyPost_ret (results_tmp4 rfl _ _ _) rfl ?_
          refine ⟨.inl ⟨HR.out, ?_⟩, HB2.out.drew⟩
          unfold some4
          rw [← H5.out, ← H6.out, ← HN.out, ← HK.out, ← HT4.out]
          rfl
        · have ene := str_ne hEq
          have HNR : Hid (¬ Rec s) := Lib.hid (fun hr => hEq (by rw [HT2.out, HU.out]; exact hr.2.2.2.2))
          clear hEq
          go_wp2
          go_region_held3 (fun _ => True) (trivial) (first | (go_at_call 63; refine (HS.out _).mono ?_; rintro e w1 ⟨rfl, rfl⟩) | (go_at_call 62; refine (HP.out _).mono ?_; rintro e w2 ⟨rfl, hb2⟩))
          go_wp2
          (try simp only [Exit.inBlock, Exit.then])
          refine bodyPost_ret (results_tmp4 rfl _ _ _) rfl ?_
          exact ⟨.inr ⟨HNR.out, rfl⟩, ⟨hb2.os, hb2.tape, hb2.output, hb2.size, hb2.block⟩⟩
  · have e3 : decide ((s.size : Int) - 14 < (n : Int)) = true := by simp; omega
    have HNR : Hid (¬ Rec s) := Lib.hid (fun hr => by have := hr.2.2.1; have := HN.out; omega)
    go_wp2
    (try simp only [Exit.inBlock, Exit.then])
    refine bodyPost_ret (results_tmp4 rfl _ _ _) rfl ?_
    exact ⟨.inr ⟨HNR.out, rfl⟩, Below.refl _ _⟩
end Go.Proofs.Ytooikkjgcpngdaa.Fr
