/-
  Acts that came in.
-/
import Derived.Test.YthgcpijokdbmhaaRows
import Derived.WalkKit
import Derived.Below
import Derived.Lib.Hide
import Derived.ChangeSame
import Derived.ChangeVars
import Derived.JoinedOf
import Derived.RowKit
import Derived.RowKitTokens
import Derived.LaidLaws
import Derived.Stop.Joined
import Derived.Carry
import Derived.ProofKit
import Derived.OpenShut
import Derived.ChangeMaps5
import Derived.Deep.Slices
import Derived.OneCell
namespace Go.Proofs.Ythgcpijokdbmhaa
open Go.ChangeShapes Go.WideShapes Go.ChangeAt Go.RowKit

def Fits (n : Int) : Prop := -9223372036854775808 ≤ n ∧ n ≤ 9223372036854775807
theorem k3 : Try.prog.cellsOf 3 = 1 := by kernel_rfl
theorem k28 : Try.prog.cellsOf 28 = 2 := by kernel_rfl
theorem k4 : Try.prog.cellsOf 4 = 1 := by kernel_rfl
theorem k26 : Try.prog.cellsOf 30 = 6 := by kernel_rfl
theorem addr_add (b off : Nat) : ∀ i, (⟨b, off, none⟩ : Addr).add i = ⟨b, off + i, none⟩ := fun i => by unfold Addr.add; split <;> simp_all
section
variable {H : Type} {enc : TypeId × Value → H} {W : World} {n : Nat}
theorem one_int {v : Value} {x : DataW H × List MemPlace} (h : DataW.trod enc Try.prog W 0 (fun _ => true) true n 3 [v] = some x) : ∃ a, v = .int .i64 a ∧ Fits a := by
  obtain ⟨a, h1, _, h2⟩ := DataW.trod_int Try.underlying3 h
  exact ⟨a, by simpa using h1, bounds_i64 h2⟩
theorem one_bool {v : Value} {x : DataW H × List MemPlace} (h : DataW.trod enc Try.prog W 0 (fun _ => true) true n 4 [v] = some x) : ∃ a, v = .bool a := by
  obtain ⟨a, h1, _⟩ := DataW.trod_bool Try.underlying4 h
  exact ⟨a, by simpa using h1⟩
theorem one_two {v u : Value} {x : DataW H × List MemPlace} (h : DataW.trod enc Try.prog W 0 (fun _ => true) true n 28 [v, u] = some x) : ∃ a b, v = .int .i64 a ∧ u = .int .i64 b ∧ Fits a ∧ Fits b := by
  obtain ⟨ys, m, _, _, hl, hyl, hi⟩ := DataW.trod_array Try.underlying28 h
  match ys, hyl with
  | [y0, y1], _ =>
    have g0 := hi 0 (by omega)
    have g1 := hi 1 (by omega)
    simp [k3] at g0 g1
    obtain ⟨a, rfl, w0⟩ := one_int g0
    obtain ⟨b, rfl, w1⟩ := one_int g1
    exact ⟨a, b, rfl, rfl, w0, w1⟩
end
/-- An act that came in. -/
structure Ac where
  kind : Int
  slot : Int
  num : Int
  on : Bool
  p : Int
  q : Int
instance : Inhabited Ac := ⟨⟨0, 0, 0, false, 0, 0⟩⟩
def Ac.cells (x : Ac) : Array Value := #[.int .i64 x.kind, .int .i64 x.slot, .int .i64 x.num, .bool x.on, .int .i64 x.p, .int .i64 x.q]
/-- Its cells lie there. -/
structure LiesA (w : World) (b k : Nat) (x : Ac) : Prop where
  c0 : w.cell? ⟨b, k, none⟩ = some (.int .i64 x.kind)
  c1 : w.cell? ⟨b, k + 1, none⟩ = some (.int .i64 x.slot)
  c2 : w.cell? ⟨b, k + 2, none⟩ = some (.int .i64 x.num)
  c3 : w.cell? ⟨b, k + 3, none⟩ = some (.bool x.on)
  c4 : w.cell? ⟨b, k + 4, none⟩ = some (.int .i64 x.p)
  c5 : w.cell? ⟨b, k + 5, none⟩ = some (.int .i64 x.q)
def ActsI (W : World) (v : Value) (xs : List Ac) : Prop :=
  ((v = .slice none 0 0 ∨ ∃ a c, v = .slice (some a) 0 c) ∧ xs = []) ∨ ∃ b o c, v = .slice (some ⟨b, o, none⟩) xs.length c ∧ 0 < xs.length ∧ xs.length ≤ c ∧ b < W.heap.size ∧ ∀ k (h : k < xs.length), LiesA W b (o + k * 6) xs[k]
theorem open_acts {H : Type} {enc : TypeId × Value → H} {W : World} {base : Nat} {v : Value} {d : DataW H} {ps : List MemPlace} (hok : Value.okWide Try.prog W .any base 22 v) (h : DataW.Trod enc Try.prog W 0 (fun _ => true) true 22 v d ps) : ∃ xs, ActsI W v xs := by
  obtain ⟨a, len, cap, rfl⟩ := okWide_slice Try.underlying22 hok
  obtain ⟨fuel, hf⟩ := h
  rcases Go.Deep.open_slice Try.underlying22 hf with ⟨h0, _⟩ | ⟨a', len', cap', m, n, D, Pl, h0, _, hl, hm, hmm, _, hcell⟩
  · obtain ⟨rfl, rfl, rfl⟩ : a = none ∧ len = 0 ∧ cap = 0 := by simpa [Value.cells] using h0
    exact ⟨[], .inl ⟨.inl rfl, rfl⟩⟩
  · obtain ⟨rfl, rfl, rfl⟩ : a = some a' ∧ len = len' ∧ cap = cap' := by simpa [Value.cells] using h0
    rcases Nat.eq_zero_or_pos len with h5 | h5
    · subst h5
      exact ⟨[], .inl ⟨.inr ⟨_, _, rfl⟩, rfl⟩⟩
    have hm' : m = cap := by simpa using hmm
    subst hm'
    have each : ∀ i, i < len → ∃ q : Ac, W.cell? (a'.add (i * 6)) = some (.int .i64 q.kind) ∧ W.cell? (a'.add (i * 6 + 1)) = some (.int .i64 q.slot) ∧ W.cell? (a'.add (i * 6 + 2)) = some (.int .i64 q.num) ∧ W.cell? (a'.add (i * 6 + 3)) = some (.bool q.on) ∧ W.cell? (a'.add (i * 6 + 4)) = some (.int .i64 q.p) ∧ W.cell? (a'.add (i * 6 + 5)) = some (.int .i64 q.q) := by
      intro i hi
      obtain ⟨cs, c1, t1⟩ := hcell i (by omega)
      rw [k26] at c1
      obtain ⟨_, hlen, hc⟩ := World.cells?_some c1
      obtain ⟨xs, k, hk, _, _, hxl, hfs⟩ := DataW.trod_struct Try.underlying30 t1
      match xs, hxl, cs, hlen with
      | [y0, y1, y2, y3, y4], _, [v0, v1, v2, v3, v4, v5], _ =>
        have g0 := hfs 0 _ rfl
        have g1 := hfs 1 _ rfl
        have g2 := hfs 2 _ rfl
        have g3 := hfs 3 _ rfl
        have g4 := hfs 4 _ rfl
        simp [k3, k4, k28] at g0 g1 g2 g3 g4
        have e0 := hc 0 (by omega)
        have e1 := hc 1 (by omega)
        have e2 := hc 2 (by omega)
        have e3 := hc 3 (by omega)
        have e4 := hc 4 (by omega)
        have e5 := hc 5 (by omega)
        rw [Go.Deep.add_add] at e0 e1 e2 e3 e4 e5
        simp at e0 e1 e2 e3 e4 e5
        obtain ⟨x0, rfl, b0⟩ := one_int g0
        obtain ⟨x1, rfl, b1⟩ := one_int g1
        obtain ⟨x2, rfl, b2⟩ := one_int g2
        obtain ⟨x3, rfl⟩ := one_bool g3
        obtain ⟨x4, x5, rfl, rfl, _, _⟩ := one_two g4
        exact ⟨⟨x0, x1, x2, x3, x4, x5⟩, e0, e1, e2, e3, e4, e5⟩
    obtain ⟨q, hq⟩ := Go.Deep.choose_lt each
    obtain ⟨b, off, spot⟩ := a'
    have h1 := (hq 0 h5).1
    have hspot : spot = none := by simpa [Addr.add] using World.cell?_spot h1
    subst hspot
    have hadd := addr_add b off
    refine ⟨(List.range len).map q, .inr ⟨b, off, m, by simp, by simpa using h5, by simpa using hl, ?_, ?_⟩⟩
    · rw [hadd] at h1
      exact World.block_lt_of_cell? W _ h1
    · intro k hk
      have h2 := hq k (by simpa using hk)
      simp only [hadd] at h2
      simp only [List.getElem_map, List.getElem_range]
      obtain ⟨a0, a1, a2, a3, a4, a5⟩ := h2
      exact ⟨a0, a1, a2, a3, a4, a5⟩
theorem ActsI.shape {W : World} {v : Value} {xs : List Ac} (h : ActsI W v xs) : ∃ A c, v = .slice A xs.length c := by
  rcases h with ⟨rfl | ⟨a, c, rfl⟩, rfl⟩ | ⟨b, o, c, rfl, _⟩ <;> exact ⟨_, _, rfl⟩
/-- The k-th act, in a world that is as it was below. -/
theorem ActsI.kth {w w' : World} {A : Option Addr} {c k : Nat} {xs : List Ac} (h : ActsI w (.slice A xs.length c) xs) (hb : Below w.heap.size w w') (hk : k < xs.length) :
    ∃ b off, A = some ⟨b, off, none⟩ ∧ LiesA w' b (off + k * 6) xs[k] := by
  rcases h with ⟨_, rfl⟩ | ⟨b, o, c', h1, h2, h3, h4, h5⟩
  · simp at hk
  · injection h1 with h1
    obtain ⟨g0, g1, g2, g3, g4, g5⟩ := h5 k hk
    exact ⟨b, o, h1, (hb.cell (p := ⟨b, _, none⟩) h4).trans g0, (hb.cell (p := ⟨b, _, none⟩) h4).trans g1, (hb.cell (p := ⟨b, _, none⟩) h4).trans g2, (hb.cell (p := ⟨b, _, none⟩) h4).trans g3, (hb.cell (p := ⟨b, _, none⟩) h4).trans g4, (hb.cell (p := ⟨b, _, none⟩) h4).trans g5⟩
end Go.Proofs.Ythgcpijokdbmhaa
