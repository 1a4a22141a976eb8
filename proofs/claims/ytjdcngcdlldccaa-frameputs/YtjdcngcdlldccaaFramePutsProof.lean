/-
  switchback's FramePuts: any record has the sector that the document says, of any size, or none, for the reason that it says. For every input the call returns true, and each argument reads afterwards as it read before. No condition.
-/
import Derived.Test.YtjdcngcdlldccaaArrs
namespace Go.Proofs.Ytjdcngcdlldccaa.framePuts
open Go.ChangeShapes Go.WideShapes Go.ChangeAt Go.RowKit

/-- The program's Put and the document's tell the same. -/
theorem both_put (x y z : Int) (p : ByteArray) (hp : p.size ≤ maxLen) : ∃ (b : ByteArray) (k : Int), 0 ≤ k ∧ k ≤ 5 ∧
    (∀ W, Calls Try.prog 9 #[.int .i64 x, .int .i64 y, .string p, .int .i64 z] W fun e w' => e = .returned (.tuple #[.string b, .int .i64 k]) ∧ Below W.heap.size W w') ∧
    (∀ W, Calls Try.prog 10 #[.int .i64 x, .int .i64 y, .string p, .int .i64 z] W fun e w' => e = .returned (.tuple #[.string b, .int .i64 k]) ∧ Below W.heap.size W w') := by
  by_cases ho : Out x y z
  · refine ⟨⟨#[]⟩, 1, by decide, by decide, fun W => ?_, fun W => ?_⟩
    · refine (put_range x y z p W ho).mono ?_
      rintro e w' ⟨he, rfl⟩
      exact ⟨he, Below.refl _ _⟩
    · refine (fput_range x y z p W ho).mono ?_
      rintro e w' ⟨he, rfl⟩
      exact ⟨he, Below.refl _ _⟩
  · unfold Out at ho
    obtain ⟨g, rfl⟩ : ∃ g : Nat, x = (g : Int) := ⟨x.toNat, by omega⟩
    obtain ⟨q, rfl⟩ : ∃ g : Nat, y = (g : Int) := ⟨y.toNat, by omega⟩
    obtain ⟨n, rfl⟩ : ∃ g : Nat, z = (g : Int) := ⟨z.toNat, by omega⟩
    by_cases hl : p.size + 14 ≤ n
    · exact ⟨secB g q p n, 0, by decide, by decide, fun W => put_ok g q n p W (by omega) (by omega) (by omega) (by omega) hl, fun W => fput_ok g q n p W (by omega) (by omega) (by omega) (by omega) hl⟩
    · refine ⟨⟨#[]⟩, 5, by decide, by decide, fun W => ?_, fun W => ?_⟩
      · refine (put_long g q n p W hp (by omega) (by omega) (by omega) (by omega) (by omega)).mono ?_
        rintro e w' ⟨he, rfl⟩
        exact ⟨he, Below.refl _ _⟩
      · refine (fput_long g q n p W hp (by omega) (by omega) (by omega) (by omega) (by omega)).mono ?_
        rintro e w' ⟨he, rfl⟩
        exact ⟨he, Below.refl _ _⟩
theorem below_drew {B : Nat} {a w : World} (h : Below B a w) (n : Nat) : Below B a (w.drewN n) := ⟨h.os, h.tape, h.output, h.size, h.block⟩
/-- So are their Rooms. -/
theorem both_room (z : Int) (hz : Fits z) : ∃ r : Int, (∀ W, Calls Try.prog 11 #[.int .i64 z] W fun e w' => e = .returned (.int .i64 r) ∧ W = w') ∧ (∀ W, Calls Try.prog 12 #[.int .i64 z] W fun e w' => e = .returned (.int .i64 r) ∧ W = w') :=
  ⟨_, fun W => froom_any z W, fun W => room_any z W hz.1 hz.2⟩

set_option maxHeartbeats 1000000 in
theorem walk_long (x y z : Int) (p : ByteArray) (w : World) (hs : p.size ≤ maxLen) (h : 2000 < p.size) : Calls Try.prog 3 #[.agg #[.int .i64 x, .int .i64 y, .int .i64 z], .string p] w (Holds w) := by
  unfold maxLen at hs
  have e1 : decide (2000 < (p.size : Int)) = true := by simp; omega
  go_enter Try.func3, Try.ntmps3
  go_wp2_with fail
  refine (awake_yes _).mono ?_
  rintro e w1 ⟨rfl, hb1⟩
  go_wp2_with fail
  refine (awake_yes _).mono ?_
  rintro e w2 ⟨rfl, hb2⟩
  go_wp2
  go_ret
  have hb3 := hb1.trans (hb2.mono hb1.size)
  exact ⟨rfl, (below_new w _).trans (hb3.mono (below_new w _).size)⟩

set_option maxHeartbeats 1000000 in
theorem walk_main (x y z : Int) (p : ByteArray) (w : World) (hz : Fits z) (h : p.size ≤ 2000) : Calls Try.prog 3 #[.agg #[.int .i64 x, .int .i64 y, .int .i64 z], .string p] w (Holds w) := by
  have e1 : decide (2000 < (p.size : Int)) = false := by simp; omega
  obtain ⟨b, k, k0, k5, hP, hF⟩ := both_put x y z p (by unfold maxLen; omega)
  obtain ⟨r, hR, hS⟩ := both_room z hz
  have HP := Lib.hid hP
  have HF := Lib.hid hF
  have HR : Hid (∀ (W : World) (n : Nat), Calls Try.prog 11 #[.int .i64 z] (W.drewN n) fun e w'' => e = .returned (.int .i64 r) ∧ ∃ m, w'' = W.drewN m) := Lib.hid (fun W n => Calls.quiet_of_same ((hR (W.drewN n)).mono fun _ _ ⟨he, hw⟩ => ⟨he, hw.symm⟩))
  have HS : Hid (∀ (W : World) (n : Nat), Calls Try.prog 12 #[.int .i64 z] (W.drewN n) fun e w'' => e = .returned (.int .i64 r) ∧ ∃ m, w'' = W.drewN m) := Lib.hid (fun W n => Calls.quiet_of_same ((hS (W.drewN n)).mono fun _ _ ⟨he, hw⟩ => ⟨he, hw.symm⟩))
  clear hP hF hR hS hz
  go_enter Try.func3, Try.ntmps3
  go_wp2_with fail
  refine (awake_yes _).mono ?_
  rintro e w1 ⟨rfl, hb⟩
  have HA1 := Lib.hid ((Arr3.new w x y z 22).under hb)
  have HB1 := Lib.hid ((below_new w _).trans (hb.mono (below_new w _).size))
  clear hb
  obtain ⟨a0, a1, a2, a3⟩ := HA1.out
  go_wp2_with fail
  refine (HP.out _).mono ?_
  rintro e w2 ⟨rfl, hb⟩
  have HB2 := Lib.hid (HB1.out.trans (hb.mono HB1.out.size))
  have HA2 := Lib.hid (HA1.out.under hb)
  clear hb a0 a1 a2 a3
  obtain ⟨a0, a1, a2, a3⟩ := HA2.out
  go_wp2_with fail
  refine (HF.out _).mono ?_
  rintro e w3 ⟨rfl, hb⟩
  have HB3 := Lib.hid (HB2.out.trans (hb.mono HB2.out.size))
  have HA3 := Lib.hid (HA2.out.under hb)
  clear hb a0 a1 a2 a3
  obtain ⟨a0, a1, a2, a3⟩ := HA3.out
  go_wp2_with fail
  go_quiet (first | (go_at_call 11; exact HR.out _ _) | (go_at_call 12; exact HS.out _ _))
  go_wp2
  go_ret
  exact ⟨rfl, below_drew HB3.out _⟩

theorem walk (v : Value) (p : ByteArray) (w : World) (hv : ∃ a b c : Int, v = .agg #[.int .i64 a, .int .i64 b, .int .i64 c] ∧ Fits a ∧ Fits b ∧ Fits c) (hs : p.size ≤ maxLen) : Calls Try.prog 3 #[v, .string p] w (Holds w) := by
  obtain ⟨a, b, c, rfl, _, _, hc⟩ := hv
  by_cases h : 2000 < p.size
  · exact walk_long a b c p w hs h
  · exact walk_main a b c p w hc (by omega)

/-! From the walk to the given row. -/
set_option maxRecDepth 100000 in
theorem lifted (os : Os) (started : os.Started) (H : Type) (enc : TypeId × Value → H) :
    ReturnsInHanded {} Try.checked os 3 .any (Rows.framePutsSpec.pre6 enc Try.prog Try.f3 Rows.framePutsRow.domain false) (Rows.framePutsSpec.post enc Try.prog Try.f3 false true false false) := by
  refine returnsInHanded_of_change (C := Try.checked) t_own started (by kernel_rfl) Try.func3
    (ChangeSpec.witness6 (enc := enc) (C := Try.checked) false ⟨#[], #[.agg #[.int .i64 0, .int .i64 0, .int .i64 0], .string ⟨#[]⟩], []⟩ 8 (by kernel_rfl) (by kernel_rfl) (by kernel_rfl) (by kernel_rfl)) ?_
  intro W base args ds gs before hval0 hW hcnd _
  have hval : ∀ (j : Nat) t v, Try.f3.params[j]? = some t → args[j]? = some v → Value.okWide Try.prog W .any base t v := hval0
  have hW' := hW
  obtain ⟨p, q, hA0, hV, rfl, hfz, hnd⟩ := hW
  have hA : DataW.TrodAll enc Try.prog W 0 (fun _ => true) true Try.f3.params.toList args.toList ds p := hA0
  rw [Try.params3] at hA hval
  obtain ⟨v0, vs0, d0, ds0, p0, q0, hargs, rfl, rfl, h0, r0⟩ := trodAll_cons hA
  obtain ⟨v1, vs1, d1, ds1, p1, q1, rfl, rfl, rfl, h1, r1⟩ := trodAll_cons r0
  obtain ⟨rfl, rfl, rfl⟩ := trodAll_nil r1
  obtain rfl : args = #[v0, v1] := by cases args; simp_all
  obtain ⟨s, rfl, rfl, rfl, hs⟩ := Go.ChangeMaps.open_string Try.underlying9 (hval 1 9 v1 rfl rfl) h1
  refine (walk v0 s W (open_three (hval 0 22 v0 rfl rfl) h0) hs).mono fun e W' ⟨he, hb⟩ => ?_
  subst he
  exact ⟨_, rfl, post_of_holds hW' (by kernel_rfl) rfl (by rw [Try.params3]; exact fun t ht => params_ok t (by simp at ht; rcases ht with rfl | rfl <;> simp)) ⟨rfl, rfl, rfl⟩ hb⟩

/-- The given statement. -/
theorem proved : Rows.FramePutsSaid :=
  OpenClaim.holds_of_wide 3 Try.f3 rfl rfl rfl rfl rfl rfl rfl ⟨rfl, rfl, rfl, rfl, rfl⟩ rfl rfl rfl rfl rfl (by kernel_rfl) Try.func3 (by kernel_rfl)
    (of_decide_eq_true (by kernel_rfl)) (by unfold Func.isWrapper; first | (rw [if_pos (by decide +kernel)]; kernel_rfl) | (rw [if_neg (by decide +kernel)]; exact ⟨rfl, rfl⟩))
    (fun os started H enc _ => lifted os started H enc)
#print axioms proved
end Go.Proofs.Ytjdcngcdlldccaa.framePuts
