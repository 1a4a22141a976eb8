/-
  A list of strings, and one of ints, that came in: how it lies in memory.
-/
import Derived.Test.YtfpbilhangdccaaDoorLift
import Derived.Deep.Strs
namespace Go.Proofs.YtfpbilhangdccaaDoor
open Go.ChangeShapes Go.WideShapes Go.ChangeAt Go.RowKit

theorem t_cells9 : Tryd.prog.cellsOf 9 = 1 := by kernel_rfl
theorem t_cells3 : Tryd.prog.cellsOf 3 = 1 := by kernel_rfl

/-- A row of cells at an address whose first cell is there lies plain. -/
theorem vals_at {W : World} {a : Addr} {len c : Nat} {xs : List Value} (hl : xs.length = len) (hc : len ≤ c) (h : ∀ i u, xs[i]? = some u → W.cell? (a.add i) = some u) : Vals W (.slice (some a) len c) xs := by
  subst hl
  rcases Nat.eq_zero_or_pos xs.length with h0 | h0
  · obtain rfl := List.eq_nil_of_length_eq_zero h0
    exact .inl ⟨⟨_, _, rfl⟩, rfl⟩
  · obtain ⟨b, off, spot⟩ := a
    have hspot : spot = none := by simpa [Addr.add] using World.cell?_spot (h 0 xs[0] (List.getElem?_eq_getElem h0))
    subst hspot
    have hadd : ∀ i, (⟨b, off, none⟩ : Addr).add i = ⟨b, off + i, none⟩ := fun i => by unfold Addr.add; split <;> simp_all
    refine .inr ⟨b, off, c, rfl, hc, ?_, fun k u hu => by rw [← hadd k]; exact h k u hu⟩
    have := h 0 xs[0] (List.getElem?_eq_getElem h0)
    rw [hadd] at this
    exact lt_of_cell this

/-- A list of strings that came in. -/
theorem open_list {H : Type} {enc : TypeId × Value → H} {W : World} {base : Nat} {v : Value} {d : DataW H} {ps : List MemPlace} (hok : Value.okWide Tryd.prog W .any base 22 v) (h : DataW.Trod enc Tryd.prog W 0 (fun _ => true) true 22 v d ps) :
    ∃ (A : Option Addr) (c : Nat) (xs : List ByteArray), v = .slice A xs.length c ∧ xs.length ≤ maxLen ∧ Vals W v (strs xs) ∧ ∀ x ∈ xs, x.size ≤ maxLen := by
  obtain ⟨a, len, cap, rfl⟩ := okWide_slice Tryd.underlying22 hok
  obtain ⟨fuel, hf⟩ := h
  rcases Go.Deep.open_strs Tryd.underlying22 Tryd.underlying9 t_cells9 hf with ⟨h0, _⟩ | ⟨a', len', cap', m, Sx, h0, _, hl, hm, hmm, _, hcell⟩
  · have h1 : Value.slice a len cap = .slice none 0 0 := by simpa [Value.cells] using h0
    rw [h1]
    exact ⟨none, 0, [], rfl, Nat.zero_le _, .inl ⟨⟨_, _, rfl⟩, rfl⟩, fun x hx => by cases hx⟩
  · have h1 : Value.slice a len cap = .slice (some a') len' cap' := by simpa [Value.cells] using h0
    rw [h1]
    have hm' : m = cap' := by simpa using hmm
    subst hm'
    refine ⟨some a', m, (List.range len').map Sx, by simp, by simp; omega, vals_at (by simp [strs]) hl ?_, ?_⟩
    · intro i u hu
      have hi : i < len' := by
        rcases Nat.lt_or_ge i len' with h | h
        · exact h
        · rw [List.getElem?_eq_none (by simp [strs]; omega)] at hu; cases hu
      have e1 : u = .string (Sx i) := by simpa [strs, hi, eq_comm] using hu
      rw [e1]
      exact (hcell i (by omega)).1
    · intro x hx
      obtain ⟨i, hi, rfl⟩ := List.mem_map.1 hx
      exact (hcell i (by have := List.mem_range.1 hi; omega)).2

def ints (xs : List Int) : List Value := xs.map (Value.int .i64)
/-- A list of ints that came in. -/
theorem open_nums {H : Type} {enc : TypeId × Value → H} {W : World} {base : Nat} {v : Value} {d : DataW H} {ps : List MemPlace} (hok : Value.okWide Tryd.prog W .any base 36 v) (h : DataW.Trod enc Tryd.prog W 0 (fun _ => true) true 36 v d ps) :
    ∃ (A : Option Addr) (c : Nat) (xs : List Int), v = .slice A xs.length c ∧ xs.length ≤ maxLen ∧ Vals W v (ints xs) := by
  obtain ⟨a, len, cap, rfl⟩ := okWide_slice Tryd.underlying36 hok
  obtain ⟨fuel, hf⟩ := h
  rcases open_ints Tryd.underlying36 Tryd.underlying3 t_cells3 hf with ⟨h0, _⟩ | ⟨a', len', cap', zs, h0, _, hl, hm, hmm, _, hcell, _⟩
  · have h1 : Value.slice a len cap = .slice none 0 0 := by simpa [Value.cells] using h0
    rw [h1]
    exact ⟨none, 0, [], rfl, Nat.zero_le _, .inl ⟨⟨_, _, rfl⟩, rfl⟩⟩
  · have h1 : Value.slice a len cap = .slice (some a') len' cap' := by simpa [Value.cells] using h0
    rw [h1]
    have hm' : zs.length = cap' := by simpa using hmm
    have hle : (zs.take len').length = len' := by simp; omega
    refine ⟨some a', cap', zs.take len', by rw [hle], by omega, vals_at (by simp [ints]; omega) hl ?_⟩
    intro i u hu
    have hi : i < len' := by
      rcases Nat.lt_or_ge i len' with h | h
      · exact h
      · rw [List.getElem?_eq_none (by simp [ints]; omega)] at hu; cases hu
    have hz : i < zs.length := by omega
    have e1 : u = .int .i64 zs[i] := by simpa [ints, hi, hz, List.getElem?_take, eq_comm] using hu
    rw [e1, hcell i hz, List.getD_eq_getElem?_getD, List.getElem?_eq_getElem hz]
    rfl
end Go.Proofs.YtfpbilhangdccaaDoor
