/-
  switchback's FrameBack: a record that is put is got as it was. For every input the call returns true, and each argument reads afterwards as it read before. No condition.
-/
import Derived.Test.YtjdcngcdlldccaaArrs
namespace Go.Proofs.Ytjdcngcdlldccaa.frameBack
open Go.ChangeShapes Go.WideShapes Go.ChangeAt Go.RowKit

set_option maxHeartbeats 1000000 in
theorem walk_long (x y z : Int) (p : ByteArray) (w : World) (hs : p.size ≤ maxLen) (h : 2000 < p.size) : Calls Try.prog 5 #[.agg #[.int .i64 x, .int .i64 y, .int .i64 z], .string p] w (Holds w) := by
  unfold maxLen at hs
  have e1 : decide (2000 < (p.size : Int)) = true := by simp; omega
  go_enter Try.func5, Try.ntmps5
  go_wp2_with fail
  refine (awake_yes _).mono ?_
  rintro e w1 ⟨rfl, hb1⟩
  go_wp2_with fail
  refine (awake_yes _).mono ?_
  rintro e w2 ⟨rfl, hb2⟩
  go_wp2
  go_ret
  have hb3 := hb1.trans (hb2.mono hb1.size)
  exact ⟨rfl, (below_new w _).trans (hb3.mono (below_new w _).size)⟩

set_option maxHeartbeats 1000000 in
/-- What isn't put. -/
theorem walk_none (x y z k : Int) (p : ByteArray) (w : World) (h : p.size ≤ 2000) (k1 : k = 1 ∨ k = 5)
    (hP : ∀ W, Calls Try.prog 9 #[.int .i64 x, .int .i64 y, .string p, .int .i64 z] W fun e w' => e = .returned (.tuple #[.string ⟨#[]⟩, .int .i64 k]) ∧ W = w') :
    Calls Try.prog 5 #[.agg #[.int .i64 x, .int .i64 y, .int .i64 z], .string p] w (Holds w) := by
  have e1 : decide (2000 < (p.size : Int)) = false := by simp; omega
  have e2 : (k != 0) = true := by rcases k1 with rfl | rfl <;> rfl
  have HP := Lib.hid hP
  clear hP k1
  go_enter Try.func5, Try.ntmps5
  go_wp2_with fail
  refine (awake_yes _).mono ?_
  rintro e w1 ⟨rfl, hb⟩
  have HA1 := Lib.hid ((Arr3.new w x y z 22).under hb)
  have HB1 := Lib.hid ((below_new w _).trans (hb.mono (below_new w _).size))
  clear hb
  obtain ⟨a0, a1, a2, a3⟩ := HA1.out
  go_wp2_with fail
  refine (HP.out _).mono ?_
  rintro e w' ⟨rfl, rfl⟩
  go_wp2
  go_ret
  exact ⟨rfl, HB1.out⟩

set_option maxHeartbeats 1000000 in
theorem walk_ok (g q n : Nat) (p : ByteArray) (w : World) (hg : g ≤ 4294967295) (hq : q ≤ 4294967295) (h1 : 128 ≤ n) (h2 : n ≤ 1024) (hp : p.size + 14 ≤ n) :
    Calls Try.prog 5 #[.agg #[.int .i64 (g : Int), .int .i64 (q : Int), .int .i64 (n : Int)], .string p] w (Holds w) := by
  have e1 : decide (2000 < (p.size : Int)) = false := by simp; omega
  obtain ⟨b, hb0⟩ : ∃ b, b = secB g q p n := ⟨_, rfl⟩
  have hbs : b.size = n := by rw [hb0]; exact sec_size g q p n hp
  have HP : Hid (∀ W, Calls Try.prog 9 #[.int .i64 (g : Int), .int .i64 (q : Int), .string p, .int .i64 (n : Int)] W fun e w' => e = .returned (.tuple #[.string b, .int .i64 0]) ∧ Below W.heap.size W w') := Lib.hid (fun W => by
    rw [hb0]; exact put_ok g q n p W hg hq h1 h2 hp)
  have HG : Hid (∀ W, Calls Try.prog 13 #[.string b] W fun e w' => e = .returned (.tuple #[.int .i64 (g : Int), .int .i64 (q : Int), .string p, .bool true]) ∧ Below W.heap.size W w') := Lib.hid (fun W => by
    rw [hb0]; exact get_sec g q n p W hg hq h1 h2 hp)
  clear hb0
  go_enter Try.func5, Try.ntmps5
  go_wp2_with fail
  refine (awake_yes _).mono ?_
  rintro e w1 ⟨rfl, hb⟩
  have HA1 := Lib.hid ((Arr3.new w (g : Int) (q : Int) (n : Int) 22).under hb)
  have HB1 := Lib.hid ((below_new w _).trans (hb.mono (below_new w _).size))
  clear hb
  obtain ⟨a0, a1, a2, a3⟩ := HA1.out
  go_wp2_with fail
  refine (HP.out _).mono ?_
  rintro e w2 ⟨rfl, hb⟩
  have HB2 := Lib.hid (HB1.out.trans (hb.mono HB1.out.size))
  have HA2 := Lib.hid (HA1.out.under hb)
  clear hb a0 a1 a2 a3
  obtain ⟨a0, a1, a2, a3⟩ := HA2.out
  go_wp2_with fail
  refine (HG.out _).mono ?_
  rintro e w3 ⟨rfl, hb⟩
  have HB3 := Lib.hid (HB2.out.trans (hb.mono HB2.out.size))
  have HA3 := Lib.hid (HA2.out.under hb)
  clear hb a0 a1 a2 a3
  obtain ⟨a0, a1, a2, a3⟩ := HA3.out
  go_wp2
  go_ret
  exact ⟨rfl, HB3.out⟩

theorem walk (v : Value) (p : ByteArray) (w : World) (hv : ∃ a b c : Int, v = .agg #[.int .i64 a, .int .i64 b, .int .i64 c] ∧ Fits a ∧ Fits b ∧ Fits c) (hs : p.size ≤ maxLen) : Calls Try.prog 5 #[v, .string p] w (Holds w) := by
  obtain ⟨a, b, c, rfl, _, _, _⟩ := hv
  by_cases h : 2000 < p.size
  · exact walk_long a b c p w hs h
  · by_cases ho : Out a b c
    · exact walk_none a b c 1 p w (by omega) (.inl rfl) (fun W => put_range a b c p W ho)
    · unfold Out at ho
      obtain ⟨g, rfl⟩ : ∃ g : Nat, a = (g : Int) := ⟨a.toNat, by omega⟩
      obtain ⟨q, rfl⟩ : ∃ g : Nat, b = (g : Int) := ⟨b.toNat, by omega⟩
      obtain ⟨n, rfl⟩ : ∃ g : Nat, c = (g : Int) := ⟨c.toNat, by omega⟩
      by_cases hl : p.size + 14 ≤ n
      · exact walk_ok g q n p w (by omega) (by omega) (by omega) (by omega) hl
      · exact walk_none g q n 5 p w (by omega) (.inr rfl) (fun W => put_long g q n p W hs (by omega) (by omega) (by omega) (by omega) (by omega))

/-! From the walk to the given row. -/
set_option maxRecDepth 100000 in
theorem lifted (os : Os) (started : os.Started) (H : Type) (enc : TypeId × Value → H) :
    ReturnsInHanded {} Try.checked os 5 .any (Rows.frameBackSpec.pre6 enc Try.prog Try.f5 Rows.frameBackRow.domain false) (Rows.frameBackSpec.post enc Try.prog Try.f5 false true false false) := by
  refine returnsInHanded_of_change (C := Try.checked) t_own started (by kernel_rfl) Try.func5
    (ChangeSpec.witness6 (enc := enc) (C := Try.checked) false ⟨#[], #[.agg #[.int .i64 0, .int .i64 0, .int .i64 0], .string ⟨#[]⟩], []⟩ 8 (by kernel_rfl) (by kernel_rfl) (by kernel_rfl) (by kernel_rfl)) ?_
  intro W base args ds gs before hval0 hW hcnd _
  have hval : ∀ (j : Nat) t v, Try.f5.params[j]? = some t → args[j]? = some v → Value.okWide Try.prog W .any base t v := hval0
  have hW' := hW
  obtain ⟨p, q, hA0, hV, rfl, hfz, hnd⟩ := hW
  have hA : DataW.TrodAll enc Try.prog W 0 (fun _ => true) true Try.f5.params.toList args.toList ds p := hA0
  rw [Try.params5] at hA hval
  obtain ⟨v0, vs0, d0, ds0, p0, q0, hargs, rfl, rfl, h0, r0⟩ := trodAll_cons hA
  obtain ⟨v1, vs1, d1, ds1, p1, q1, rfl, rfl, rfl, h1, r1⟩ := trodAll_cons r0
  obtain ⟨rfl, rfl, rfl⟩ := trodAll_nil r1
  obtain rfl : args = #[v0, v1] := by cases args; simp_all
  obtain ⟨s, rfl, rfl, rfl, hs⟩ := Go.ChangeMaps.open_string Try.underlying9 (hval 1 9 v1 rfl rfl) h1
  refine (walk v0 s W (open_three (hval 0 22 v0 rfl rfl) h0) hs).mono fun e W' ⟨he, hb⟩ => ?_
  subst he
  exact ⟨_, rfl, post_of_holds hW' (by kernel_rfl) rfl (by rw [Try.params5]; exact fun t ht => params_ok t (by simp at ht; rcases ht with rfl | rfl <;> simp)) ⟨rfl, rfl, rfl⟩ hb⟩

/-- The given statement. -/
theorem proved : Rows.FrameBackSaid :=
  OpenClaim.holds_of_wide 5 Try.f5 rfl rfl rfl rfl rfl rfl rfl ⟨rfl, rfl, rfl, rfl, rfl⟩ rfl rfl rfl rfl rfl (by kernel_rfl) Try.func5 (by kernel_rfl)
    (of_decide_eq_true (by kernel_rfl)) (by unfold Func.isWrapper; first | (rw [if_pos (by decide +kernel)]; kernel_rfl) | (rw [if_neg (by decide +kernel)]; exact ⟨rfl, rfl⟩))
    (fun os started H enc _ => lifted os started H enc)
#print axioms proved
end Go.Proofs.Ytjdcngcdlldccaa.frameBack
