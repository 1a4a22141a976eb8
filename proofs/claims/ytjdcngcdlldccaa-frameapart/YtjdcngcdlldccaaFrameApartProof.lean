/-
  switchback's FrameApart: two records of one size have one sector just if they are the same. For every input the call returns true, and each argument reads afterwards as it read before. No condition.
-/
import Derived.Test.YtjdcngcdlldccaaArrs
namespace Go.Proofs.Ytjdcngcdlldccaa.frameApart
open Go.ChangeShapes Go.WideShapes Go.ChangeAt Go.RowKit

theorem below_drew {B : Nat} {a w : World} (h : Below B a w) (n : Nat) : Below B a (w.drewN n) := ⟨h.os, h.tape, h.output, h.size, h.block⟩

/-- The call's own world: three arrays behind all that was there. -/
structure Own (w W : World) (x0 x1 y0 y1 : Int) (p q : ByteArray) : Prop where
  a0 : W.cell? ⟨w.heap.size, 0, none⟩ = some (.int .i64 x0)
  a1 : W.cell? ⟨w.heap.size, 1, none⟩ = some (.int .i64 x1)
  b0 : W.cell? ⟨w.heap.size + 1, 0, none⟩ = some (.int .i64 y0)
  b1 : W.cell? ⟨w.heap.size + 1, 1, none⟩ = some (.int .i64 y1)
  c0 : W.cell? ⟨w.heap.size + 2, 0, none⟩ = some (.string p)
  c1 : W.cell? ⟨w.heap.size + 2, 1, none⟩ = some (.string q)
  lt : w.heap.size + 2 < W.heap.size
  below : Below w.heap.size w W
theorem Own.under {w W W' : World} {x0 x1 y0 y1 : Int} {p q : ByteArray} (h : Own w W x0 x1 y0 y1 p q) (hb : Below W.heap.size W W') : Own w W' x0 x1 y0 y1 p q := by
  have hlt := h.lt
  exact ⟨(hb.cell (p := ⟨_, 0, none⟩) (by show w.heap.size < _; omega)).trans h.a0, (hb.cell (p := ⟨_, 1, none⟩) (by show w.heap.size < _; omega)).trans h.a1,
    (hb.cell (p := ⟨_, 0, none⟩) (by show w.heap.size + 1 < _; omega)).trans h.b0, (hb.cell (p := ⟨_, 1, none⟩) (by show w.heap.size + 1 < _; omega)).trans h.b1,
    (hb.cell (p := ⟨_, 0, none⟩) hlt).trans h.c0, (hb.cell (p := ⟨_, 1, none⟩) hlt).trans h.c1, Nat.lt_of_lt_of_le hlt hb.size, h.below.trans (hb.mono h.below.size)⟩
theorem Own.new (w : World) (x0 x1 y0 y1 : Int) (p q : ByteArray) : Own w (((w.alloc (.cells #[.int .i64 x0, .int .i64 x1] 34)).alloc (.cells #[.int .i64 y0, .int .i64 y1] 34)).alloc (.cells #[.string p, .string q] 35)) x0 x1 y0 y1 p q := by
  have h1 := below_new w (.cells #[.int .i64 x0, .int .i64 x1] 34)
  have h2 := h1.alloc h1.size (.cells #[.int .i64 y0, .int .i64 y1] 34)
  obtain ⟨W1, hW1⟩ : ∃ W1, W1 = w.alloc (.cells #[.int .i64 x0, .int .i64 x1] 34) := ⟨_, rfl⟩
  have s1 : W1.heap.size = w.heap.size + 1 := by rw [hW1]; simp
  have A1 : Arr2 W1 w.heap.size (.int .i64 x0) (.int .i64 x1) := by rw [hW1]; exact Arr2.new w _ _ 34
  rw [← hW1] at h2 ⊢
  obtain ⟨W2, hW2⟩ : ∃ W2, W2 = W1.alloc (.cells #[.int .i64 y0, .int .i64 y1] 34) := ⟨_, rfl⟩
  have s2 : W2.heap.size = w.heap.size + 2 := by rw [hW2]; simp [s1]
  have A2 : Arr2 W2 w.heap.size (.int .i64 x0) (.int .i64 x1) := by rw [hW2]; exact A1.under (below_new W1 _)
  have B2 : Arr2 W2 (w.heap.size + 1) (.int .i64 y0) (.int .i64 y1) := by rw [hW2, ← s1]; exact Arr2.new W1 _ _ 34
  rw [← hW2] at h2 ⊢
  have A3 := A2.under (below_new W2 (.cells #[.string p, .string q] 35))
  have B3 := B2.under (below_new W2 (.cells #[.string p, .string q] 35))
  have C3 : Arr2 (W2.alloc (.cells #[.string p, .string q] 35)) (w.heap.size + 2) (.string p) (.string q) := by rw [← s2]; exact Arr2.new W2 _ _ 35
  exact ⟨A3.c0, A3.c1, B3.c0, B3.c1, C3.c0, C3.c1, C3.lt, h2.alloc h2.size _⟩

/-- Two arrays of two ints are the same just if both ints are. -/
theorem eq34 (a b c d : Int) (w : World) : (Op.equalIn 10000 34 (.agg #[.int .i64 a, .int .i64 b]) (.agg #[.int .i64 c, .int .i64 d])).run Try.prog w = .ok (a == c && b == d) w := by
  have u3 := Try.underlying3
  have g3 := Try.isAgg3
  have z3 := Try.sizeOf3
  rw [show (10000 : Nat) = 9999 + 1 from rfl, Op.equalIn]
  simp only [Sem.run_bind, run_underlying Try.underlying34, Result.andThen_ok]
  simp only [Std.Legacy.Range.forIn_eq_forIn_range', Std.Legacy.Range.size, Nat.sub_zero, Nat.add_sub_cancel, Nat.div_one, List.range'_succ, List.range'_zero, List.forIn_cons, List.forIn_nil]
  go_simp
  by_cases h1 : a = c <;> by_cases h2 : b = d <;> simp [h1, h2]
theorem pair_eq (a b c d : Int) : (a == c && b == d) = decide (a = c ∧ b = d) := by
  by_cases h1 : a = c <;> by_cases h2 : b = d <;> simp [h1, h2]
theorem str_eq (a b : ByteArray) : (a.toList == b.toList) = decide (a = b) := by
  by_cases h : a = b
  · subst h; simp
  · rw [str_ne h]; simp [h]

/-- What Put tells of a record of 256 bytes, of at most 200 of its own. -/
theorem put2 (x y : Int) (p : ByteArray) (hp : p.size ≤ 200) :
    (Out x y 256 ∧ ∀ W, Calls Try.prog 9 #[.int .i64 x, .int .i64 y, .string p, .int .i64 256] W fun e w' => e = .returned (.tuple #[.string ⟨#[]⟩, .int .i64 1]) ∧ Below W.heap.size W w') ∨
    ∃ g q : Nat, x = (g : Int) ∧ y = (q : Int) ∧ g < 4294967296 ∧ q < 4294967296 ∧ ∀ W, Calls Try.prog 9 #[.int .i64 x, .int .i64 y, .string p, .int .i64 256] W fun e w' => e = .returned (.tuple #[.string (secB g q p 256), .int .i64 0]) ∧ Below W.heap.size W w' := by
  by_cases ho : Out x y 256
  · refine .inl ⟨ho, fun W => ?_⟩
    refine (put_range x y 256 p W ho).mono ?_
    rintro e w' ⟨he, rfl⟩
    exact ⟨he, Below.refl _ _⟩
  · unfold Out at ho
    obtain ⟨g, rfl⟩ : ∃ g : Nat, x = (g : Int) := ⟨x.toNat, by omega⟩
    obtain ⟨q, rfl⟩ : ∃ g : Nat, y = (g : Int) := ⟨y.toNat, by omega⟩
    exact .inr ⟨g, q, rfl, rfl, by omega, by omega, fun W => put_ok g q 256 p W (by omega) (by omega) (by decide) (by decide) (by omega)⟩

abbrev args (x0 x1 y0 y1 : Int) (p q : ByteArray) : Array Value := #[.agg #[.int .i64 x0, .int .i64 x1], .agg #[.int .i64 y0, .int .i64 y1], .agg #[.string p, .string q]]

set_option maxHeartbeats 1000000 in
theorem walk_long (x0 x1 y0 y1 : Int) (p q : ByteArray) (w : World) (hp : p.size ≤ maxLen) (hq : q.size ≤ maxLen) (h : 200 < p.size ∨ 200 < q.size) : Calls Try.prog 7 (args x0 x1 y0 y1 p q) w (Holds w) := by
  unfold maxLen at hp hq
  by_cases h1 : 200 < p.size
  · have e1 : decide (200 < (p.size : Int)) = true := by simp; omega
    go_enter Try.func7, Try.ntmps7
    go_wp2_with fail
    refine (awake_yes _).mono ?_
    rintro e w1 ⟨rfl, hb⟩
    have HO := Lib.hid ((Own.new w x0 x1 y0 y1 p q).under hb)
    clear hb
    obtain ⟨a0, a1, b0, b1, c0, c1, lt, _⟩ := HO.out
    go_wp2_with fail
    refine (awake_yes _).mono ?_
    rintro e w2 ⟨rfl, hb⟩
    have HO2 := Lib.hid (HO.out.under hb)
    clear hb
    go_wp2
    go_ret
    exact ⟨rfl, HO2.out.below⟩
  · have e1 : decide (200 < (p.size : Int)) = false := by simp; omega
    have e2 : decide (200 < (q.size : Int)) = true := by simp; omega
    go_enter Try.func7, Try.ntmps7
    go_wp2_with fail
    refine (awake_yes _).mono ?_
    rintro e w1 ⟨rfl, hb⟩
    have HO := Lib.hid ((Own.new w x0 x1 y0 y1 p q).under hb)
    clear hb
    obtain ⟨a0, a1, b0, b1, c0, c1, lt, _⟩ := HO.out
    go_wp2_with fail
    refine (awake_yes _).mono ?_
    rintro e w2 ⟨rfl, hb⟩
    have HO2 := Lib.hid (HO.out.under hb)
    clear hb
    go_wp2
    go_ret
    exact ⟨rfl, HO2.out.below⟩

set_option maxHeartbeats 1000000 in
theorem walk_main (x0 x1 y0 y1 ka kb : Int) (p q a b : ByteArray) (w : World) (hp : p.size ≤ 200) (hq : q.size ≤ 200) (hka : ka = 1 ∨ ka = 0) (hkb : kb = 1 ∨ kb = 0)
    (hA : ∀ W, Calls Try.prog 9 #[.int .i64 x0, .int .i64 x1, .string p, .int .i64 256] W fun e w' => e = .returned (.tuple #[.string a, .int .i64 ka]) ∧ Below W.heap.size W w')
    (hB : ∀ W, Calls Try.prog 9 #[.int .i64 y0, .int .i64 y1, .string q, .int .i64 256] W fun e w' => e = .returned (.tuple #[.string b, .int .i64 kb]) ∧ Below W.heap.size W w')
    (hE : ka = 0 → kb = 0 → (a = b ↔ x0 = y0 ∧ x1 = y1 ∧ p = q)) : Calls Try.prog 7 (args x0 x1 y0 y1 p q) w (Holds w) := by
  have e1 : decide (200 < (p.size : Int)) = false := by simp; omega
  have e2 : decide (200 < (q.size : Int)) = false := by simp; omega
  have HA := Lib.hid hA
  have HB := Lib.hid hB
  have HE := Lib.hid hE
  clear hA hB hE
  go_enter Try.func7, Try.ntmps7
  go_wp2_with fail
  refine (awake_yes _).mono ?_
  rintro e w1 ⟨rfl, hb⟩
  have HO := Lib.hid ((Own.new w x0 x1 y0 y1 p q).under hb)
  clear hb
  obtain ⟨a0, a1, b0, b1, c0, c1, lt, _⟩ := HO.out
  go_wp2_with fail
  refine (HA.out _).mono ?_
  rintro e w2 ⟨rfl, hb⟩
  have HO2 := Lib.hid (HO.out.under hb)
  clear hb a0 a1 b0 b1 c0 c1 lt
  obtain ⟨a0, a1, b0, b1, c0, c1, lt, _⟩ := HO2.out
  go_wp2_with fail
  refine (HB.out _).mono ?_
  rintro e w3 ⟨rfl, hb⟩
  have HO3 := Lib.hid (HO2.out.under hb)
  clear hb a0 a1 b0 b1 c0 c1 lt
  obtain ⟨a0, a1, b0, b1, c0, c1, lt, _⟩ := HO3.out
  rcases hka with rfl | rfl
  · go_wp2
    go_ret
    exact ⟨rfl, HO3.out.below⟩
  rcases hkb with rfl | rfl
  · go_wp2
    go_ret
    exact ⟨rfl, HO3.out.below⟩
  have kx := eq34 x0 x1 y0 y1
  have hE := HE.out rfl rfl
  have ex := pair_eq x0 x1 y0 y1
  have ea := str_eq a b
  have ep := str_eq p q
  by_cases h1 : x0 = y0 ∧ x1 = y1
  · by_cases h2 : p = q
    · have hab : a = b := hE.2 ⟨h1.1, h1.2, h2⟩
      rw [decide_eq_true hab] at ea
      rw [decide_eq_true h2] at ep
      rw [decide_eq_true h1] at ex
      rw [ex] at kx
      clear hE ex h1 h2 hab HE
      go_wp2
      go_ret
      exact ⟨rfl, HO3.out.below⟩
    · have hab : ¬ a = b := fun h => h2 (hE.1 h).2.2
      rw [decide_eq_false hab] at ea
      rw [decide_eq_false h2] at ep
      rw [decide_eq_true h1] at ex
      rw [ex] at kx
      clear hE ex h1 h2 hab HE
      go_wp2
      go_ret
      exact ⟨rfl, HO3.out.below⟩
  · have hab : ¬ a = b := fun h => h1 ⟨(hE.1 h).1, (hE.1 h).2.1⟩
    rw [decide_eq_false hab] at ea
    rw [decide_eq_false h1] at ex
    rw [ex] at kx
    clear hE ex h1 hab HE
    go_wp2
    go_ret
    exact ⟨rfl, HO3.out.below⟩

theorem walk (u v t : Value) (w : World) (hu : ∃ a b : Int, u = .agg #[.int .i64 a, .int .i64 b] ∧ Fits a ∧ Fits b) (hv : ∃ a b : Int, v = .agg #[.int .i64 a, .int .i64 b] ∧ Fits a ∧ Fits b)
    (ht : ∃ a b : ByteArray, t = .agg #[.string a, .string b] ∧ a.size ≤ maxLen ∧ b.size ≤ maxLen) : Calls Try.prog 7 #[u, v, t] w (Holds w) := by
  obtain ⟨x0, x1, rfl, _, _⟩ := hu
  obtain ⟨y0, y1, rfl, _, _⟩ := hv
  obtain ⟨p, q, rfl, hp, hq⟩ := ht
  by_cases h : 200 < p.size ∨ 200 < q.size
  · exact walk_long x0 x1 y0 y1 p q w hp hq h
  · have hp2 : p.size ≤ 200 := by omega
    have hq2 : q.size ≤ 200 := by omega
    rcases put2 x0 x1 p hp2 with ⟨_, hA⟩ | ⟨g1, n1, hx0, hx1, l1, l2, hA⟩ <;> rcases put2 y0 y1 q hq2 with ⟨_, hB⟩ | ⟨g2, n2, hy0, hy1, l3, l4, hB⟩
    · exact walk_main x0 x1 y0 y1 1 1 p q _ _ w hp2 hq2 (.inl rfl) (.inl rfl) hA hB (fun h => by cases h)
    · exact walk_main x0 x1 y0 y1 1 0 p q _ _ w hp2 hq2 (.inl rfl) (.inr rfl) hA hB (fun h => by cases h)
    · exact walk_main x0 x1 y0 y1 0 1 p q _ _ w hp2 hq2 (.inr rfl) (.inl rfl) hA hB (fun _ h => by cases h)
    · refine walk_main x0 x1 y0 y1 0 0 p q _ _ w hp2 hq2 (.inr rfl) (.inr rfl) hA hB (fun _ _ => ⟨fun h => ?_, fun h => ?_⟩)
      · obtain ⟨h1, h2, h3⟩ := sec_inj g1 n1 g2 n2 p q 256 (by omega) (by omega) l1 l2 l3 l4 h
        exact ⟨by rw [hx0, hy0, h1], by rw [hx1, hy1, h2], h3⟩
      · obtain ⟨h1, h2, rfl⟩ := h
        have e1 : g1 = g2 := by omega
        have e2 : n1 = n2 := by omega
        rw [e1, e2]

/-! From the walk to the given row. -/
set_option maxRecDepth 100000 in
theorem lifted (os : Os) (started : os.Started) (H : Type) (enc : TypeId × Value → H) :
    ReturnsInHanded {} Try.checked os 7 .any (Rows.frameApartSpec.pre6 enc Try.prog Try.f7 Rows.frameApartRow.domain false) (Rows.frameApartSpec.post enc Try.prog Try.f7 false true false false) := by
  refine returnsInHanded_of_change (C := Try.checked) t_own started (by kernel_rfl) Try.func7
    (ChangeSpec.witness6 (enc := enc) (C := Try.checked) false ⟨#[], #[.agg #[.int .i64 0, .int .i64 0], .agg #[.int .i64 0, .int .i64 0], .agg #[.string ⟨#[]⟩, .string ⟨#[]⟩]], []⟩ 8 (by kernel_rfl) (by kernel_rfl) (by kernel_rfl) (by kernel_rfl)) ?_
  intro W base args ds gs before hval0 hW hcnd _
  have hval : ∀ (j : Nat) t v, Try.f7.params[j]? = some t → args[j]? = some v → Value.okWide Try.prog W .any base t v := hval0
  have hW' := hW
  obtain ⟨p, q, hA0, hV, rfl, hfz, hnd⟩ := hW
  have hA : DataW.TrodAll enc Try.prog W 0 (fun _ => true) true Try.f7.params.toList args.toList ds p := hA0
  rw [Try.params7] at hA hval
  obtain ⟨v0, vs0, d0, ds0, p0, q0, hargs, rfl, rfl, h0, r0⟩ := trodAll_cons hA
  obtain ⟨v1, vs1, d1, ds1, p1, q1, rfl, rfl, rfl, h1, r1⟩ := trodAll_cons r0
  obtain ⟨v2, vs2, d2, ds2, p2, q2, rfl, rfl, rfl, h2, r2⟩ := trodAll_cons r1
  obtain ⟨rfl, rfl, rfl⟩ := trodAll_nil r2
  obtain rfl : args = #[v0, v1, v2] := by cases args; simp_all
  
  refine (walk v0 v1 v2 W (open_two (hval 0 34 v0 rfl rfl) h0) (open_two (hval 1 34 v1 rfl rfl) h1) (open_texts (hval 2 35 v2 rfl rfl) h2)).mono fun e W' ⟨he, hb⟩ => ?_
  subst he
  exact ⟨_, rfl, post_of_holds hW' (by kernel_rfl) rfl (by rw [Try.params7]; exact fun t ht => params_ok t (by simp at ht; rcases ht with rfl | rfl <;> simp)) ⟨rfl, rfl, rfl⟩ hb⟩

/-- The given statement. -/
theorem proved : Rows.FrameApartSaid :=
  OpenClaim.holds_of_wide 7 Try.f7 rfl rfl rfl rfl rfl rfl rfl ⟨rfl, rfl, rfl, rfl, rfl⟩ rfl rfl rfl rfl rfl (by kernel_rfl) Try.func7 (by kernel_rfl)
    (of_decide_eq_true (by kernel_rfl)) (by unfold Func.isWrapper; first | (rw [if_pos (by decide +kernel)]; kernel_rfl) | (rw [if_neg (by decide +kernel)]; exact ⟨rfl, rfl⟩))
    (fun os started H enc _ => lifted os started H enc)
#print axioms proved
end Go.Proofs.Ytjdcngcdlldccaa.frameApart
