/-
  What package frame's Put answers.
-/
import Derived.Test.YtooikkjgcpngdaaFrame
namespace Go.Proofs.Ytooikkjgcpngdaa.Fr
open Go.RowKit

theorem repeat_any (c : UInt8) (n : Nat) (w : World) (h : n ≤ 100000) : Calls Try.prog 50 #[.string ⟨#[c]⟩, .int .i64 (n : Int)] w fun e w' => e = .returned (.string ⟨(List.replicate n c).toArray⟩) ∧ Below w.heap.size w w' := by
  have hc := Try.strings_Repeat ⟨#[c]⟩ n w (by omega) (by simp [ByteArray.size]; omega)
  have e : Lib.repeatL (⟨#[c]⟩ : ByteArray).data.toList n = List.replicate n c := by
    have := Lib.repeatL_replicate c 1 n
    rw [Nat.mul_one] at this
    exact this
  rw [e] at hc
  exact hc
theorem noughts_any (n : Nat) (k : Int) (w : World) (hk : k = (n : Int)) (h : n ≤ 100000) : Calls Try.prog 50 #[.string ⟨#[0]⟩, .int .i64 k] w fun e w' => e = .returned (.string (zer n)) ∧ Below w.heap.size w w' := by
  subst hk
  exact repeat_any 0 n w h

/-- A new row of two texts. -/
theorem Vals.two (w : World) (s u : ByteArray) (t : TypeId) : Vals (w.alloc (.cells #[.string s, .string u] t)) (.slice (some ⟨w.heap.size, 0, none⟩) 2 2) (strs [s, u]) := by
  refine .inr ⟨w.heap.size, 0, 2, rfl, by simp [strs], by simp, fun k u hu => ?_⟩
  have hk : k < 2 := by
    have := (List.getElem?_eq_some_iff.1 hu).1
    simpa [strs] using this
  rcases (by omega : k = 0 ∨ k = 1) with rfl | rfl
  · simp [strs] at hu ⊢
    exact hu
  · simp [strs] at hu ⊢
    exact hu
theorem joined_two (s u : ByteArray) : joined [s, u] = (s ++ u).data.toList := by simp [joined]
theorem sum_two (s u : ByteArray) (t : TypeId) (w : World) (hs : s.size ≤ 65536) (hu : u.size ≤ 65536) :
    Calls Try.prog 76 #[.slice (some ⟨w.heap.size, 0, none⟩) 2 2] (w.alloc (.cells #[.string s, .string u] t)) fun e w' => e = .returned (.int .u32 ((sumV (s ++ u).data.toList).toNat : Int)) ∧ (w.alloc (.cells #[.string s, .string u] t)) = w' := by
  have h := sum_any [s, u] _ (w.alloc (.cells #[.string s, .string u] t)) (by simp) (by intro x hx; rcases List.mem_cons.1 hx with rfl | hx; exact hs; rcases List.mem_cons.1 hx with rfl | hx; exact hu; cases hx) (Vals.two w s u t)
  rw [joined_two] at h
  exact h

set_option maxHeartbeats 2000000 in
theorem put_ok (gen seq size : Nat) (p : ByteArray) (w : World) (hg : gen ≤ 4294967295) (hq : seq ≤ 4294967295) (h1 : 128 ≤ size) (h2 : size ≤ 1024) (hp : p.size + 14 ≤ size) :
    Calls Try.prog 53 #[.int .i64 (gen : Int), .int .i64 (seq : Int), .string p, .int .i64 (size : Int)] w fun e w' => e = .returned (.tuple #[.string (secB gen seq p size), .int .i64 0]) ∧ Below w.heap.size w w' := by
  have e7 : decide ((size : Int) - 14 < (p.size : Int)) = false := by simp; omega
  go_enter Try.func53, Try.ntmps53
  go_wp2_with fail
  refine (isSize_yes _ _ (by omega) (by omega)).mono ?_
  rintro e w' ⟨rfl, rfl⟩
  go_wp2_with fail
  refine (isWord_yes gen _ (by omega)).mono ?_
  rintro e w' ⟨rfl, rfl⟩
  go_wp2_with fail
  refine (isWord_yes seq _ (by omega)).mono ?_
  rintro e w' ⟨rfl, rfl⟩
  go_wp2_with fail
  refine (froom_in size _ (by omega) (by omega)).mono ?_
  rintro e w' ⟨rfl, rfl⟩
  go_wp2_with fail
  refine (half_any p.size _ (by omega)).mono ?_
  rintro e w1 ⟨rfl, hb⟩
  have HB1 := Lib.hid hb
  clear hb
  go_wp2_with fail
  refine (word_any gen _ (by omega)).mono ?_
  rintro e w2 ⟨rfl, hb⟩
  have HB2 := Lib.hid (HB1.out.trans (hb.mono HB1.out.size))
  clear hb
  obtain ⟨a, ha⟩ : ∃ a, a = be 2 p.size := ⟨_, rfl⟩
  obtain ⟨b, hb⟩ : ∃ a, a = be 4 gen := ⟨_, rfl⟩
  have has : a.size = 2 := by rw [ha, be_size]
  have hbs : b.size = 4 := by rw [hb, be_size]
  rw [← ha, ← hb]
  have HA := Lib.hid ha
  have HBb := Lib.hid hb
  clear ha hb
  go_wp2_with fail
  refine (word_any seq _ (by omega)).mono ?_
  rintro e w3 ⟨rfl, hb⟩
  have HB3 := Lib.hid (HB2.out.trans (hb.mono HB2.out.size))
  clear hb
  obtain ⟨c, hc⟩ : ∃ a, a = be 4 seq := ⟨_, rfl⟩
  have hcs : c.size = 4 := by rw [hc, be_size]
  rw [← hc]
  have HC := Lib.hid hc
  clear hc
  go_wp2_with fail
  refine (sum_two _ _ _ _ (by simp only [ByteArray.size_append]; omega) (by omega)).mono ?_
  rintro e w' ⟨rfl, rfl⟩
  obtain ⟨o, ho⟩ : ∃ o, o = a ++ b ++ c := ⟨_, rfl⟩
  have hos : o.size = 10 := by rw [ho]; simp only [ByteArray.size_append]; omega
  rw [← ho]
  have HO := Lib.hid ho
  clear ho has hbs hcs
  obtain ⟨X, hX⟩ : ∃ X, X = sumV (o ++ p).data.toList := ⟨_, rfl⟩
  rw [← hX]
  have HX := Lib.hid hX
  clear hX
  have HB4 := Lib.hid (HB3.out.alloc HB3.out.size (.cells #[.string o, .string p] 9))
  obtain ⟨w4, hw4⟩ : ∃ w4, w4 = w3.alloc (.cells #[.string o, .string p] 9) := ⟨_, rfl⟩
  rw [← hw4] at HB4 ⊢
  clear hw4
  go_wp2_with fail
  refine (put_any X _).mono ?_
  rintro e w5 ⟨rfl, hb⟩
  have HB5 := Lib.hid (HB4.out.trans (hb.mono HB4.out.size))
  clear hb
  obtain ⟨u, hu⟩ : ∃ u, u = putB X := ⟨_, rfl⟩
  have hus : u.size = 4 := by rw [hu, putB_size]
  rw [← hu]
  have HU := Lib.hid hu
  clear hu
  go_wp2_with fail
  refine (froom_in size _ (by omega) (by omega)).mono ?_
  rintro e w' ⟨rfl, rfl⟩
  go_wp2_with fail
  refine (noughts_any (size - (14 + p.size)) _ _ (by omega) (by omega)).mono ?_
  rintro e w6 ⟨rfl, hb⟩
  have HB6 := Lib.hid (HB5.out.trans (hb.mono HB5.out.size))
  clear hb
  obtain ⟨z, hz⟩ : ∃ z, z = zer (size - (14 + p.size)) := ⟨_, rfl⟩
  have hzs : z.size ≤ 1024 := by rw [hz, zer_size]; omega
  rw [← hz]
  have HZ := Lib.hid hz
  clear hz
  go_wp2
  go_ret2
  refine ⟨?_, HB6.out⟩
  rw [HZ.out, HU.out, HX.out, HO.out, HA.out, HBb.out, HC.out]
  rfl

set_option maxHeartbeats 2000000 in
theorem put_range (gen seq size : Int) (p : ByteArray) (w : World) (h : Out gen seq size) :
    Calls Try.prog 53 #[.int .i64 gen, .int .i64 seq, .string p, .int .i64 size] w fun e w' => e = .returned (.tuple #[.string ⟨#[]⟩, .int .i64 1]) ∧ w = w' := by
  unfold Out at h
  by_cases q0 : size < 128 ∨ 1024 < size
  · clear h
    go_enter Try.func53, Try.ntmps53
    go_wp2_with fail
    refine (isSize_no _ _ q0).mono ?_
    rintro e w' ⟨rfl, rfl⟩
    go_wp2
    go_ret2
    exact ⟨rfl, rfl⟩
  by_cases q1 : gen < 0 ∨ 4294967295 < gen
  · clear h
    go_enter Try.func53, Try.ntmps53
    go_wp2_with fail
    refine (isSize_yes _ _ (by omega) (by omega)).mono ?_
    rintro e w' ⟨rfl, rfl⟩
    go_wp2_with fail
    refine (isWord_no _ _ q1).mono ?_
    rintro e w' ⟨rfl, rfl⟩
    go_wp2
    go_ret2
    exact ⟨rfl, rfl⟩
  have q2 : seq < 0 ∨ 4294967295 < seq := by omega
  obtain ⟨g, rfl⟩ : ∃ g : Nat, gen = (g : Int) := ⟨gen.toNat, by omega⟩
  clear h
  go_enter Try.func53, Try.ntmps53
  go_wp2_with fail
  refine (isSize_yes _ _ (by omega) (by omega)).mono ?_
  rintro e w' ⟨rfl, rfl⟩
  go_wp2_with fail
  refine (isWord_yes g _ (by omega)).mono ?_
  rintro e w' ⟨rfl, rfl⟩
  go_wp2_with fail
  refine (isWord_no _ _ q2).mono ?_
  rintro e w' ⟨rfl, rfl⟩
  go_wp2
  go_ret2
  exact ⟨rfl, rfl⟩

set_option maxHeartbeats 1000000 in
theorem put_long (gen seq size : Nat) (p : ByteArray) (w : World) (_hps : p.size ≤ maxLen) (hg : gen ≤ 4294967295) (hq : seq ≤ 4294967295) (h1 : 128 ≤ size) (h2 : size ≤ 1024) (hp : size < p.size + 14) :
    Calls Try.prog 53 #[.int .i64 (gen : Int), .int .i64 (seq : Int), .string p, .int .i64 (size : Int)] w fun e w' => e = .returned (.tuple #[.string ⟨#[]⟩, .int .i64 5]) ∧ w = w' := by
  unfold maxLen at _hps
  have e7 : decide ((size : Int) - 14 < (p.size : Int)) = true := by simp; omega
  go_enter Try.func53, Try.ntmps53
  go_wp2_with fail
  refine (isSize_yes _ _ (by omega) (by omega)).mono ?_
  rintro e w' ⟨rfl, rfl⟩
  go_wp2_with fail
  refine (isWord_yes gen _ (by omega)).mono ?_
  rintro e w' ⟨rfl, rfl⟩
  go_wp2_with fail
  refine (isWord_yes seq _ (by omega)).mono ?_
  rintro e w' ⟨rfl, rfl⟩
  go_wp2_with fail
  refine (froom_in size _ (by omega) (by omega)).mono ?_
  rintro e w' ⟨rfl, rfl⟩
  go_wp2
  go_ret2
  exact ⟨rfl, rfl⟩
end Go.Proofs.Ytooikkjgcpngdaa.Fr
