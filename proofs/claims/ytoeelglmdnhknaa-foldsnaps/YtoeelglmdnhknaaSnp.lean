/-
  Records in two parts: plain facts, and slices of a slice.
-/
import Derived.Test.YtoeelglmdnhknaaCpy
import Derived.Test.YtoeelglmdnhknaaLaw
namespace Go.Proofs.Ytoeelglmdnhknaa
open Go.RowKit

theorem run_le : ∀ (l : List Rc) (s : St), (runS s l).2 ≤ l.length
  | [], _ => Nat.le_refl _
  | r :: l, s => by
    rw [runS]
    split
    · have := run_le l (stepS s r).1
      simp
      omega
    · simp
theorem run_split : ∀ (l1 l2 : List Rc) (s : St), ((runS s l1).2 = l1.length → runS s (l1 ++ l2) = addN l1.length (runS (runS s l1).1 l2)) ∧ ((runS s l1).2 < l1.length → runS s (l1 ++ l2) = runS s l1)
  | [], l2, s => ⟨fun _ => rfl, fun h => by cases h⟩
  | r :: l1, l2, s => by
    cases h : (stepS s r).2 with
    | false =>
      rw [List.cons_append, runS_no h, runS_no h]
      exact ⟨fun e => by simp at e, fun _ => rfl⟩
    | true =>
      obtain ⟨i1, i2⟩ := run_split l1 l2 (stepS s r).1
      rw [List.cons_append, runS_yes h, runS_yes h]
      refine ⟨fun e => ?_, fun e => ?_⟩
      · have e' : (runS (stepS s r).1 l1).2 = l1.length := by simpa [addN] using e
        rw [i1 e', addN_add]
        simp only [List.length_cons]
        rw [Nat.add_comm 1]
        rfl
      · have e' : (runS (stepS s r).1 l1).2 < l1.length := by simpa [addN] using e
        rw [i2 e']
theorem right_run : ∀ (l : List Rc) (s : St), rightS s = true → rightS (runS s l).1 = true
  | [], _, h => h
  | r :: l, s, h => by
    rw [runS]
    split
    · exact right_run l _ (right_step r h)
    · exact h
theorem all_run {s : St} {rs : List Rc} (h : ∀ r ∈ rs, r.kind ≠ 11) : allS s rs = runS s rs := by
  cases rs with
  | nil => rfl
  | cons r rs => rw [allS, if_neg (h r (List.mem_cons_self ..))]
theorem slice_to (W : World) (Ad : Option Addr) (n cp a : Nat) (h : a ≤ cp) : (Instr.slice 33 (.slice Ad n cp) none (some (.int .i64 (a : Int))) none).run Try.prog W = .ok (.slice (if cp = 0 then Ad else Ad.map (·.add 0)) a cp) W := by
  have h1 : (a : Int) ≤ (cp : Int) := by omega
  simp [Instr.slice, run_underlying Try.underlying33, Instr.sliceBounds, Instr.sliceBound, asIntOf, sizeOf, typeInfo, ie27_is, h]
theorem slice_from (W : World) (Ad : Option Addr) (n cp a : Nat) (h : a ≤ n) : (Instr.slice 33 (.slice Ad n cp) (some (.int .i64 (a : Int))) none none).run Try.prog W = .ok (.slice (if cp = a then Ad else Ad.map (·.add (a * 19))) (n - a) (cp - a)) W := by
  have h1 : (a : Int) ≤ (n : Int) := by omega
  simp [Instr.slice, run_underlying Try.underlying33, Instr.sliceBounds, Instr.sliceBound, asIntOf, sizeOf, typeInfo, ie27_is, ie27_size, h]
theorem recs_to {w : World} {v : Value} {rs : List Rc} (h : RecsI w v rs) (a : Nat) (ha : a ≤ rs.length) : ∃ v1, (∀ W, (Instr.slice 33 v none (some (.int .i64 (a : Int))) none).run Try.prog W = .ok v1 W) ∧ RecsI w v1 (rs.take a) := by
  rcases h with ⟨rfl | ⟨ad, c, rfl⟩, rfl⟩ | ⟨b, o, c, rfl, h1, h2, h3, h4⟩
  · obtain rfl : a = 0 := by simpa using ha
    exact ⟨_, fun W => slice_to W none 0 0 0 (Nat.le_refl _), .inl ⟨.inl rfl, rfl⟩⟩
  · obtain rfl : a = 0 := by simpa using ha
    refine ⟨_, fun W => slice_to W (some ad) 0 c 0 (Nat.zero_le _), .inl ⟨.inr ?_, rfl⟩⟩
    split
    · exact ⟨_, _, rfl⟩
    · exact ⟨_, _, rfl⟩
  · refine ⟨_, fun W => slice_to W _ _ c a (by omega), ?_⟩
    rw [if_neg (by omega)]
    have e : (Option.map (fun x => Addr.add x 0) (some (⟨b, o, none⟩ : Addr))) = some ⟨b, o, none⟩ := by simp [Addr.add_mid]
    rw [e]
    rcases Nat.eq_zero_or_pos a with rfl | hp
    · exact .inl ⟨.inr ⟨_, _, rfl⟩, by simp⟩
    · have hl : (rs.take a).length = a := by rw [List.length_take]; omega
      refine .inr ⟨b, o, c, by rw [hl], by omega, by omega, h3, fun k hk => ?_⟩
      rw [List.getElem_take]
      exact h4 k (by omega)
theorem recs_from {w : World} {v : Value} {rs : List Rc} (h : RecsI w v rs) (a : Nat) (ha : a ≤ rs.length) : ∃ v1, (∀ W, (Instr.slice 33 v (some (.int .i64 (a : Int))) none none).run Try.prog W = .ok v1 W) ∧ RecsI w v1 (rs.drop a) := by
  rcases h with ⟨rfl | ⟨ad, c, rfl⟩, rfl⟩ | ⟨b, o, c, rfl, h1, h2, h3, h4⟩
  · obtain rfl : a = 0 := by simpa using ha
    exact ⟨_, fun W => slice_from W none 0 0 0 (Nat.le_refl _), .inl ⟨.inl rfl, rfl⟩⟩
  · obtain rfl : a = 0 := by simpa using ha
    refine ⟨_, fun W => slice_from W (some ad) 0 c 0 (Nat.zero_le _), .inl ⟨.inr ?_, rfl⟩⟩
    split
    · exact ⟨_, _, rfl⟩
    · exact ⟨_, _, rfl⟩
  · refine ⟨_, fun W => slice_from W _ _ c a ha, ?_⟩
    rcases Nat.eq_or_lt_of_le ha with e | hp
    · rw [e, Nat.sub_self, List.drop_length]
      refine .inl ⟨.inr ?_, rfl⟩
      split
      · exact ⟨_, _, rfl⟩
      · exact ⟨_, _, rfl⟩
    · rw [if_neg (by omega)]
      have e : (Option.map (fun x => Addr.add x (a * 19)) (some (⟨b, o, none⟩ : Addr))) = some ⟨b, o + a * 19, none⟩ := by simp [Addr.add_mid]
      rw [e]
      have hl : (rs.drop a).length = rs.length - a := List.length_drop ..
      refine .inr ⟨b, o + a * 19, c - a, by rw [hl], by omega, by omega, h3, fun k hk => ?_⟩
      have h5 := h4 (a + k) (by omega)
      rw [List.getElem_drop, show o + a * 19 + k * 19 = o + (a + k) * 19 by omega]
      exact h5
/-- A struct literal whose cells are known, as a run. -/
theorem exec_build_is {P : Program} {o : Oper} {a : Act} {w : World} (t : TypeId) (parts : Array (Nat × Operand)) (ho : o.op = .build t parts) (cells : Array Value) (hc : P.built t (parts.map fun (i, x) => (i, a.eval x)).toList = some cells) : (execOp a.eval o).run P w = .ok (.value (.agg cells)) w := by
  unfold execOp
  simp only [ho, Sem.run_bind, run_build w t _ cells hc, Result.andThen_ok]
  rfl
/-- What the four calls tell. -/
structure Parts (s : St) (rs : List Rc) (a : Nat) : Prop where
  low : (runS s (rs.take a)).2 < a → allS s rs = allS s (rs.take a)
  high : (runS s (rs.take a)).2 = a → allS s rs = addN a (allS (allS s (rs.take a)).1 (rs.drop a)) ∧ allS zeroS (⟨11, 0, 0, 0, 0, 0, false, (allS s (rs.take a)).1⟩ :: rs.drop a) = addN 1 (allS (allS s (rs.take a)).1 (rs.drop a))
  le : (runS s (rs.take a)).2 ≤ a
  same : allS s (rs.take a) = runS s (rs.take a)
theorem parts_of {s : St} {rs : List Rc} (hs : rightS s = true) (h : ∀ r ∈ rs, r.kind ≠ 11) (a : Nat) (ha : a ≤ rs.length) : Parts s rs a := by
  have ht : ∀ r ∈ rs.take a, r.kind ≠ 11 := fun r hr => h r (List.mem_of_mem_take hr)
  have hd : ∀ r ∈ rs.drop a, r.kind ≠ 11 := fun r hr => h r (List.mem_of_mem_drop hr)
  have hl : (rs.take a).length = a := by rw [List.length_take]; omega
  obtain ⟨i1, i2⟩ := run_split (rs.take a) (rs.drop a) s
  rw [List.take_append_drop, hl] at i1 i2
  refine ⟨fun e => ?_, fun e => ⟨?_, ?_⟩, by have := run_le (rs.take a) s; omega, all_run ht⟩
  · rw [all_run h, all_run ht]; exact i2 e
  · rw [all_run h, all_run ht, all_run hd]; exact i1 e
  · rw [allS_snap rfl (by rw [all_run ht]; exact right_run _ _ hs), all_run hd]
theorem run_cnt (s : St) (rs : List Rc) (hr : ∀ r ∈ rs, r.kind ≠ 11) : (allS s rs).2 ≤ rs.length := by rw [all_run hr]; exact run_le rs s
end Go.Proofs.Ytoeelglmdnhknaa
