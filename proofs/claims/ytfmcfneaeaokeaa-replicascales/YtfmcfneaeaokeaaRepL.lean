/-
  Slices of numbers and of acts that came in.
-/
import Derived.Test.YtfmcfneaeaokeaaRows
import Derived.WalkKit
import Derived.Below
import Derived.Lib.Hide
import Derived.ChangeSame
import Derived.ChangeVars
import Derived.JoinedOf
import Derived.RowKit
import Derived.RowKitTokens
import Derived.LaidLaws
import Derived.Stop.Joined
import Derived.Carry
import Derived.ProofKit
import Derived.OpenShut
import Derived.ChangeMaps5
import Derived.Deep.Slices
import Derived.OneCell
namespace Go.Proofs.Ytfmcfneaeaokeaa
open Go.ChangeShapes Go.WideShapes Go.ChangeAt Go.RowKit

def Fits (n : Int) : Prop := -9223372036854775808 ≤ n ∧ n ≤ 9223372036854775807
theorem k3 : Try.prog.cellsOf 3 = 1 := by kernel_rfl
theorem k24 : Try.prog.cellsOf 36 = 1 := by kernel_rfl
theorem k4 : Try.prog.cellsOf 4 = 1 := by kernel_rfl
theorem k26 : Try.prog.cellsOf 31 = 3 := by kernel_rfl
theorem addr_add (b off : Nat) : ∀ i, (⟨b, off, none⟩ : Addr).add i = ⟨b, off + i, none⟩ := fun i => by unfold Addr.add; split <;> simp_all
/-- A slice that came in. -/
def IntsI (W : World) (v : Value) (xs : List Int) : Prop :=
  ((v = .slice none 0 0 ∨ ∃ a c, v = .slice (some a) 0 c) ∧ xs = []) ∨ ∃ b o c, v = .slice (some ⟨b, o, none⟩) xs.length c ∧ 0 < xs.length ∧ xs.length ≤ c ∧ b < W.heap.size ∧ ∀ k (h : k < xs.length), W.cell? ⟨b, o + k, none⟩ = some (.int .i64 xs[k])
section
variable {H : Type} {enc : TypeId × Value → H} {W : World} {n : Nat}
theorem one_int {v : Value} {x : DataW H × List MemPlace} (h : DataW.trod enc Try.prog W 0 (fun _ => true) true n 3 [v] = some x) : ∃ a, v = .int .i64 a ∧ Fits a := by
  obtain ⟨a, h1, _, h2⟩ := DataW.trod_int Try.underlying3 h
  exact ⟨a, by simpa using h1, bounds_i64 h2⟩
theorem one_bool {v : Value} {x : DataW H × List MemPlace} (h : DataW.trod enc Try.prog W 0 (fun _ => true) true n 4 [v] = some x) : ∃ a, v = .bool a := by
  obtain ⟨a, h1, _⟩ := DataW.trod_bool Try.underlying4 h
  exact ⟨a, by simpa using h1⟩
/-- A slice of numbers. -/
theorem open_ints1 {v : Value} {x : DataW H × List MemPlace} (h : DataW.trod enc Try.prog W 0 (fun _ => true) true n 36 [v] = some x) : ∃ xs, IntsI W v xs ∧ ∀ x ∈ xs, Fits x := by
  rcases Go.Deep.open_slice Try.underlying36 h with ⟨h0, _⟩ | ⟨a', len, cap, m, k, D, Pl, h0, _, hl, hm, hmm, _, hcell⟩
  · obtain rfl : v = .slice none 0 0 := by simpa using h0
    exact ⟨[], .inl ⟨.inl rfl, rfl⟩, fun _ h => by cases h⟩
  · obtain rfl : v = .slice (some a') len cap := by simpa using h0
    rcases Nat.eq_zero_or_pos len with h5 | h5
    · subst h5
      exact ⟨[], .inl ⟨.inr ⟨_, _, rfl⟩, rfl⟩, fun _ h => by cases h⟩
    have hm' : m = cap := by simpa using hmm
    subst hm'
    have each : ∀ i, i < len → ∃ a : Int, W.cell? (a'.add i) = some (.int .i64 a) ∧ Fits a := by
      intro i hi
      obtain ⟨cs, c1, t1⟩ := hcell i (by omega)
      rw [k3] at c1
      obtain ⟨_, hlen, hc⟩ := World.cells?_some c1
      match cs, hlen with
      | [u], _ =>
        obtain ⟨a, rfl, hf⟩ := one_int t1
        have e := hc 0 (by omega)
        rw [Go.Deep.add_add] at e
        exact ⟨a, by simpa using e, hf⟩
    obtain ⟨q, hq⟩ := Go.Deep.choose_lt each
    obtain ⟨b, off, spot⟩ := a'
    have h1 := (hq 0 h5).1
    have hspot : spot = none := by simpa [Addr.add] using World.cell?_spot h1
    subst hspot
    have hadd := addr_add b off
    refine ⟨(List.range len).map q, .inr ⟨b, off, m, by simp, by simpa using h5, by simpa using hl, ?_, ?_⟩, ?_⟩
    · rw [hadd] at h1
      exact World.block_lt_of_cell? W _ h1
    · intro k hk
      have h2 := (hq k (by simpa using hk)).1
      rw [hadd] at h2
      simpa using h2
    · intro r hr
      obtain ⟨k, hk, rfl⟩ := List.mem_map.1 hr
      exact (hq k (by simpa using hk)).2
end
/-- An act that came in. -/
structure Ac where
  kind : Int
  num : Int
  on : Bool
instance : Inhabited Ac := ⟨⟨0, 0, false⟩⟩
/-- Its three cells lie there. -/
structure LiesA (w : World) (b k : Nat) (x : Ac) : Prop where
  c0 : w.cell? ⟨b, k, none⟩ = some (.int .i64 x.kind)
  c1 : w.cell? ⟨b, k + 1, none⟩ = some (.int .i64 x.num)
  c2 : w.cell? ⟨b, k + 2, none⟩ = some (.bool x.on)
  bd : Fits x.kind ∧ Fits x.num
def ActsI (W : World) (v : Value) (xs : List Ac) : Prop :=
  ((v = .slice none 0 0 ∨ ∃ a c, v = .slice (some a) 0 c) ∧ xs = []) ∨ ∃ b o c, v = .slice (some ⟨b, o, none⟩) xs.length c ∧ 0 < xs.length ∧ xs.length ≤ c ∧ b < W.heap.size ∧ ∀ k (h : k < xs.length), LiesA W b (o + k * 3) xs[k]
theorem open_acts {H : Type} {enc : TypeId × Value → H} {W : World} {base : Nat} {v : Value} {d : DataW H} {ps : List MemPlace} (hok : Value.okWide Try.prog W .any base 22 v) (h : DataW.Trod enc Try.prog W 0 (fun _ => true) true 22 v d ps) : ∃ xs, ActsI W v xs := by
  obtain ⟨a, len, cap, rfl⟩ := okWide_slice Try.underlying22 hok
  obtain ⟨fuel, hf⟩ := h
  rcases Go.Deep.open_slice Try.underlying22 hf with ⟨h0, _⟩ | ⟨a', len', cap', m, n, D, Pl, h0, _, hl, hm, hmm, _, hcell⟩
  · obtain ⟨rfl, rfl, rfl⟩ : a = none ∧ len = 0 ∧ cap = 0 := by simpa [Value.cells] using h0
    exact ⟨[], .inl ⟨.inl rfl, rfl⟩⟩
  · obtain ⟨rfl, rfl, rfl⟩ : a = some a' ∧ len = len' ∧ cap = cap' := by simpa [Value.cells] using h0
    rcases Nat.eq_zero_or_pos len with h5 | h5
    · subst h5
      exact ⟨[], .inl ⟨.inr ⟨_, _, rfl⟩, rfl⟩⟩
    have hm' : m = cap := by simpa using hmm
    subst hm'
    have each : ∀ i, i < len → ∃ q : Ac, W.cell? (a'.add (i * 3)) = some (.int .i64 q.kind) ∧ W.cell? (a'.add (i * 3 + 1)) = some (.int .i64 q.num) ∧ W.cell? (a'.add (i * 3 + 2)) = some (.bool q.on) ∧ Fits q.kind ∧ Fits q.num := by
      intro i hi
      obtain ⟨cs, c1, t1⟩ := hcell i (by omega)
      rw [k26] at c1
      obtain ⟨_, hlen, hc⟩ := World.cells?_some c1
      obtain ⟨xs, k, hk, _, _, hxl, hfs⟩ := DataW.trod_struct Try.underlying31 t1
      match xs, hxl, cs, hlen with
      | [y0, y1, y2], _, [v0, v1, v2], _ =>
        have g0 := hfs 0 _ rfl
        have g1 := hfs 1 _ rfl
        have g2 := hfs 2 _ rfl
        simp [k3, k4] at g0 g1 g2
        have e0 := hc 0 (by omega)
        have e1 := hc 1 (by omega)
        have e2 := hc 2 (by omega)
        rw [Go.Deep.add_add] at e0 e1 e2
        simp at e0 e1 e2
        obtain ⟨x0, rfl, b0⟩ := one_int g0
        obtain ⟨x1, rfl, b1⟩ := one_int g1
        obtain ⟨x2, rfl⟩ := one_bool g2
        exact ⟨⟨x0, x1, x2⟩, e0, e1, e2, b0, b1⟩
    obtain ⟨q, hq⟩ := Go.Deep.choose_lt each
    obtain ⟨b, off, spot⟩ := a'
    have h1 := (hq 0 h5).1
    have hspot : spot = none := by simpa [Addr.add] using World.cell?_spot h1
    subst hspot
    have hadd := addr_add b off
    refine ⟨(List.range len).map q, .inr ⟨b, off, m, by simp, by simpa using h5, by simpa using hl, ?_, ?_⟩⟩
    · rw [hadd] at h1
      exact World.block_lt_of_cell? W _ h1
    · intro k hk
      have h2 := hq k (by simpa using hk)
      simp only [hadd] at h2
      simp only [List.getElem_map, List.getElem_range]
      obtain ⟨a0, a1, a2, a3, a4⟩ := h2
      exact ⟨a0, a1, a2, a3, a4⟩
theorem IntsI.shape {W : World} {v : Value} {xs : List Int} (h : IntsI W v xs) : ∃ A c, v = .slice A xs.length c := by
  rcases h with ⟨rfl | ⟨a, c, rfl⟩, rfl⟩ | ⟨b, o, c, rfl, _⟩ <;> exact ⟨_, _, rfl⟩
theorem ActsI.shape {W : World} {v : Value} {xs : List Ac} (h : ActsI W v xs) : ∃ A c, v = .slice A xs.length c := by
  rcases h with ⟨rfl | ⟨a, c, rfl⟩, rfl⟩ | ⟨b, o, c, rfl, _⟩ <;> exact ⟨_, _, rfl⟩
/-- The k-th number, the k-th act, in a world that is as it was below. -/
theorem IntsI.kth {w w' : World} {A : Option Addr} {c k : Nat} {xs : List Int} (h : IntsI w (.slice A xs.length c) xs) (hb : Below w.heap.size w w') (hk : k < xs.length) : ∃ B o, A = some ⟨B, o, none⟩ ∧ w'.cell? ⟨B, o + k, none⟩ = some (.int .i64 xs[k]) := by
  rcases h with ⟨_, rfl⟩ | ⟨B, o, c', h1, h2, h3, h4, h5⟩
  · simp at hk
  · injection h1 with h1
    exact ⟨B, o, h1, (hb.cell (p := ⟨B, o + k, none⟩) h4).trans (h5 k hk)⟩
theorem ActsI.kth {w w' : World} {A : Option Addr} {c k : Nat} {xs : List Ac} (h : ActsI w (.slice A xs.length c) xs) (hb : Below w.heap.size w w') (hk : k < xs.length) :
    ∃ b off, A = some ⟨b, off, none⟩ ∧ w'.cell? ⟨b, off + k * 3, none⟩ = some (.int .i64 xs[k].kind) ∧ w'.cell? ⟨b, off + k * 3 + 1, none⟩ = some (.int .i64 xs[k].num) ∧ w'.cell? ⟨b, off + k * 3 + 2, none⟩ = some (.bool xs[k].on) ∧ Fits xs[k].num := by
  rcases h with ⟨_, rfl⟩ | ⟨b, o, c', h1, h2, h3, h4, h5⟩
  · simp at hk
  · injection h1 with h1
    obtain ⟨g0, g1, g2, g3⟩ := h5 k hk
    exact ⟨b, o, h1, (hb.cell (p := ⟨b, _, none⟩) h4).trans g0, (hb.cell (p := ⟨b, _, none⟩) h4).trans g1, (hb.cell (p := ⟨b, _, none⟩) h4).trans g2, g3.2⟩
end Go.Proofs.Ytfmcfneaeaokeaa
