/-
  What package frame's Get answers.
-/
import Derived.Test.YtooikkjgcpngdaaFrameB
namespace Go.Proofs.Ytooikkjgcpngdaa.Fr
open Go.RowKit

theorem val_word (s : ByteArray) (a : Nat) : valL (s.extract a (a + 4)).data.toList < 4294967296 := by
  have h := valL_lt (s.extract a (a + 4)).data.toList 4 (by rw [ext_data, List.length_take]; omega)
  exact h
/-- What is read off a sector, put again, is that sector just if it is one with a record. -/
theorem rec_iff (s : ByteArray) (h1 : 128 ≤ s.size) (h2 : s.size ≤ 1024) (h3 : lenV s + 14 ≤ s.size) :
    Rec s ↔ secB (valL (s.extract 2 6).data.toList) (valL (s.extract 6 10).data.toList) (s.extract 14 (14 + lenV s)) s.size = s := by
  refine ⟨rec_sec s, fun h => ?_⟩
  have hps : (s.extract 14 (14 + lenV s)).size = lenV s := by rw [← len_data', ext_data, List.length_take, List.length_drop, len_data']; omega
  have := (sec_rec (valL (s.extract 2 6).data.toList) (valL (s.extract 6 10).data.toList) (s.extract 14 (14 + lenV s)) s.size h1 h2 (by omega) (val_word s 2) (val_word s 6)).1
  rw [h] at this
  exact this

set_option maxHeartbeats 400000 in
theorem get_size (s : ByteArray) (w : World) (hs : s.size ≤ maxLen) (h : s.size < 128 ∨ 1024 < s.size) : Calls Try.prog 79 #[.string s] w fun e w' => Got s e ∧ Below w.heap.size w w' := by
  unfold maxLen at hs
  have hn : ¬ Rec s := fun hr => by have := hr.1; have := hr.2.1; omega
  have HN := Lib.hid hn
  clear hn
  go_enter Try.func79, Try.ntmps79
  go_wp2_with fail
  refine (isSize_no _ _ (by omega)).mono ?_
  rintro e w' ⟨rfl, rfl⟩
  go_wp2
  (try simp only [Exit.inBlock, Exit.then])
  refine bodyPost_ret (results_tmp4 rfl _ _ _) rfl ?_
  exact ⟨.inr ⟨HN.out, rfl⟩, Below.refl _ _⟩

set_option maxHeartbeats 4000000 in
theorem get_in (s : ByteArray) (w : World) (h1 : 128 ≤ s.size) (h2 : s.size ≤ 1024) : Calls Try.prog 79 #[.string s] w fun e w' => Got s e ∧ Below w.heap.size w w' := by
  have i2 : (2 : Int) ≤ (s.size : Int) := by omega
  have i6 : (6 : Int) ≤ (s.size : Int) := by omega
  have i10 : (10 : Int) ≤ (s.size : Int) := by omega
  have i14 : (14 : Int) ≤ (s.size : Int) := by omega
  have k1 : ∀ W : World, (Instr.slice 9 (.string s) none (some (.int .i64 2)) none).run Try.prog W = .ok (.string (s.extract 0 2)) W := by
    intro W
    go_simp
    all_goals (intro hq; exfalso; omega)
  have k5 : ∀ W : World, (Instr.slice 9 (.string s) (some (.int .i64 2)) (some (.int .i64 6)) none).run Try.prog W = .ok (.string (s.extract 2 6)) W := by
    intro W
    go_simp
    all_goals (intro hq; exfalso; omega)
  have k6 : ∀ W : World, (Instr.slice 9 (.string s) (some (.int .i64 6)) (some (.int .i64 10)) none).run Try.prog W = .ok (.string (s.extract 6 10)) W := by
    intro W
    go_simp
    all_goals (intro hq; exfalso; omega)
  obtain ⟨n, hn⟩ : ∃ n, n = lenV s := ⟨_, rfl⟩
  have hn65 : n < 65536 := by
    have := valL_lt (s.extract 0 2).data.toList 2 (by simp [ByteArray.data_extract]; omega)
    rw [hn]
    exact this
  obtain ⟨k, hk⟩ : ∃ k, k = 14 + n := ⟨_, rfl⟩
  have ek : (14 : Int) + (n : Int) = (k : Int) := by omega
  have ew : IntKind.i64.wrap (k : Int) = (k : Int) := IntWalk.i64_in _ (by omega)
  obtain ⟨t1, ht1⟩ : ∃ t, t = s.extract 0 2 := ⟨_, rfl⟩
  obtain ⟨t5, ht5⟩ : ∃ t, t = s.extract 2 6 := ⟨_, rfl⟩
  obtain ⟨t6, ht6⟩ : ∃ t, t = s.extract 6 10 := ⟨_, rfl⟩
  rw [← ht1] at k1
  rw [← ht5] at k5
  rw [← ht6] at k6
  have hv1 : ∀ W, Calls Try.prog 88 #[.string t1] W fun e w' => e = .returned (.int .i64 (n : Int)) ∧ W = w' := by
    intro W
    have h := number_any t1 W (by rw [ht1]; simp; omega)
    rw [show valL t1.data.toList = n by rw [ht1, hn]; rfl] at h
    exact h
  obtain ⟨n5, hn5⟩ : ∃ x, x = valL t5.data.toList := ⟨_, rfl⟩
  obtain ⟨n6, hn6⟩ : ∃ x, x = valL t6.data.toList := ⟨_, rfl⟩
  have hv5 : ∀ W, Calls Try.prog 88 #[.string t5] W fun e w' => e = .returned (.int .i64 (n5 : Int)) ∧ W = w' := by
    intro W
    rw [hn5]
    exact number_any t5 W (by rw [ht5]; simp; omega)
  have hv6 : ∀ W, Calls Try.prog 88 #[.string t6] W fun e w' => e = .returned (.int .i64 (n6 : Int)) ∧ W = w' := by
    intro W
    rw [hn6]
    exact number_any t6 W (by rw [ht6]; simp; omega)
  have b5 : n5 < 4294967296 := by rw [hn5, ht5]; exact val_word s 2
  have b6 : n6 < 4294967296 := by rw [hn6, ht6]; exact val_word s 6
  have HV1 := Lib.hid hv1
  have HV5 := Lib.hid hv5
  have HV6 := Lib.hid hv6
  have HN := Lib.hid hn
  have HK := Lib.hid hk
  have H5 : Hid (n5 = valL (s.extract 2 6).data.toList) := Lib.hid (by rw [hn5, ht5])
  have H6 : Hid (n6 = valL (s.extract 6 10).data.toList) := Lib.hid (by rw [hn6, ht6])
  clear hv1 hv5 hv6 hn hk hn5 hn6 ht1 ht5 ht6
  go_enter Try.func79, Try.ntmps79
  go_wp2_with fail
  refine (isSize_yes _ _ (by omega) (by omega)).mono ?_
  rintro e w' ⟨rfl, rfl⟩
  go_wp2_with fail
  refine (HV1.out _).mono ?_
  rintro e w' ⟨rfl, rfl⟩
  by_cases h3 : n + 14 ≤ s.size
  · have e3 : decide ((s.size : Int) - 14 < (n : Int)) = false := by simp; omega
    have hks : k ≤ s.size := by omega
    have ik : (k : Int) ≤ (s.size : Int) := by omega
    have i14k : (14 : Int) ≤ (k : Int) := by omega
    have k4 : ∀ W : World, (Instr.slice 9 (.string s) (some (.int .i64 14)) (some (.int .i64 (k : Int))) none).run Try.prog W = .ok (.string (s.extract 14 k)) W := by
      intro W
      go_simp
      all_goals (intro hq; exfalso; omega)
    obtain ⟨t4, ht4⟩ : ∃ t, t = s.extract 14 k := ⟨_, rfl⟩
    have h4s : t4.size + 14 ≤ s.size := by rw [ht4]; simp; omega
    rw [← ht4] at k4
    have HT4 := Lib.hid ht4
    obtain ⟨u, hu⟩ : ∃ u, u = secB n5 n6 t4 s.size := ⟨_, rfl⟩
    have HP : Hid (∀ W, Calls Try.prog 53 #[.int .i64 (n5 : Int), .int .i64 (n6 : Int), .string t4, .int .i64 (s.size : Int)] W fun e w' => e = .returned (.tuple #[.string u, .int .i64 0]) ∧ Below W.heap.size W w') := Lib.hid (by
      intro W
      rw [hu]
      exact put_ok n5 n6 s.size t4 W (by omega) (by omega) h1 h2 h4s)
    have HR : Hid (Rec s ↔ u = s) := Lib.hid (by
      have := rec_iff s h1 h2 (by have := HN.out; omega)
      rw [hu, ht4, HK.out, HN.out, H5.out, H6.out]
      exact this)
    clear ht4 hu
    go_wp2_with fail
    refine (froom_in s.size _ (by omega) (by omega)).mono ?_
    rintro e w' ⟨rfl, rfl⟩
    go_wp2
    go_region_held3 (fun _ => True) (trivial) (first | (go_at_call_of 88 t5; refine (HV5.out _).mono ?_; rintro e w3 ⟨rfl, rfl⟩) | (go_at_call_of 88 t6; refine (HV6.out _).mono ?_; rintro e w4 ⟨rfl, rfl⟩))
    by_cases hEq : u = s
    · have HRY : Hid (Rec s) := Lib.hid (HR.out.2 hEq)
      clear HR
      subst hEq
      go_wp2_with fail
      refine (HP.out _).mono ?_
      rintro e w5 ⟨rfl, hb⟩
      have HB : Hid (Below w.heap.size w w5) := Lib.hid ⟨hb.os, hb.tape, hb.output, hb.size, hb.block⟩
      clear hb
      go_wp2
      (try simp only [Exit.inBlock, Exit.then])
      refine bodyPost_ret (results_tmp4 rfl _ _ _) rfl ?_
      refine ⟨.inl ⟨HRY.out, ?_⟩, HB.out⟩
      unfold some4
      rw [← H5.out, ← H6.out, ← HN.out, ← HK.out, ← HT4.out]
      rfl
    · have HNR : Hid (¬ Rec s) := Lib.hid (fun h => hEq (HR.out.1 h))
      have ene := str_ne hEq
      clear HR hEq
      go_wp2_with fail
      refine (HP.out _).mono ?_
      rintro e w5 ⟨rfl, hb⟩
      have HB : Hid (Below w.heap.size w w5) := Lib.hid ⟨hb.os, hb.tape, hb.output, hb.size, hb.block⟩
      clear hb
      go_wp2
      (try simp only [Exit.inBlock, Exit.then])
      refine bodyPost_ret (results_tmp4 rfl _ _ _) rfl ?_
      exact ⟨.inr ⟨HNR.out, rfl⟩, HB.out⟩
  · have e3 : decide ((s.size : Int) - 14 < (n : Int)) = true := by simp; omega
    have HNR : Hid (¬ Rec s) := Lib.hid (fun hr => by have := hr.2.2.1; have := HN.out; omega)
    go_wp2_with fail
    refine (froom_in s.size _ (by omega) (by omega)).mono ?_
    rintro e w' ⟨rfl, rfl⟩
    go_wp2
    (try simp only [Exit.inBlock, Exit.then])
    refine bodyPost_ret (results_tmp4 rfl _ _ _) rfl ?_
    exact ⟨.inr ⟨HNR.out, rfl⟩, Below.refl _ _⟩
end Go.Proofs.Ytooikkjgcpngdaa.Fr
