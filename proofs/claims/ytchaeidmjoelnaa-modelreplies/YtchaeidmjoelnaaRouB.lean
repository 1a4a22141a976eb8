/-
  The document's own router in memory: Call.
-/
import Derived.Test.YtchaeidmjoelnaaRouA
namespace Go.Proofs.Ytchaeidmjoelnaa
open Go.RowKit

theorem slice_one (W : World) (Ad : Option Addr) (n cp : Nat) (h : 1 ≤ n) : (Instr.slice 32 (.slice Ad n cp) (some (.int .i64 1)) none none).run Try.prog W = .ok (.slice (if cp = 1 then Ad else Ad.map (·.add (1 * 1))) (n - 1) (cp - 1)) W := by
  have h1 : (1 : Int) ≤ (n : Int) := by omega
  simp [Instr.slice, run_underlying Try.underlying32, Instr.sliceBounds, Instr.sliceBound, asIntOf, sizeOf, typeInfo, ie3_is, ie3_size, h1]
theorem own_tail {W : World} {v : Value} {x : Int} {xs : List Int} (h : Own W v (x :: xs)) : ∃ e c, v = .slice (some ⟨e, 0, none⟩) (xs.length + 1) c ∧ W.cell? ⟨e, 0, none⟩ = some (.int .i64 x) ∧ ∃ v1, (∀ W', (Instr.slice 32 v (some (.int .i64 1)) none none).run Try.prog W' = .ok v1 W') ∧ IntsI W v1 xs := by
  have hr := h.reads
  rcases h.2 with ⟨_, hn⟩ | ⟨g, cap, cur, rfl, _, hg, hn, hc, hs, ht⟩
  · cases hn
  · rcases hr with ⟨_, h0⟩ | ⟨b, o, c, he, _, h2, h3, h4⟩
    · cases h0
    · injection he with he1 he2 he3
      injection he1 with he1
      injection he1 with e1 e2 e3
      subst e1 e2 he3
      refine ⟨g, cap, rfl, by have := h4 0 (by simp); simpa using this, _, fun W' => slice_one W' _ _ _ (by simp), ?_⟩
      simp only [List.length_cons, Nat.add_sub_cancel]
      rcases Nat.eq_zero_or_pos xs.length with hz | hp
      · obtain rfl : xs = [] := List.length_eq_zero_iff.1 hz
        refine .inl ⟨.inr ?_, rfl⟩
        split
        · exact ⟨_, _, rfl⟩
        · exact ⟨_, _, rfl⟩
      · have hc1 : cap ≠ 1 := by simp at hn; omega
        rw [if_neg hc1]
        refine .inr ⟨g, 1, cap - 1, by simp [Addr.add], hp, by simp at hn; omega, h3, fun k hk => ?_⟩
        have h5 := h4 (k + 1) (by simp; omega)
        simp only [Nat.zero_add, List.getElem_cons_succ] at h5
        rw [Nat.add_comm 1 k]
        exact h5
/-- What a call leaves of a router whose fuse bears it, and what it tells. -/
def outS (s : Ro) : Int := s.outs.headD 0
def callS (s : Ro) (gen slot : Int) : Ro := if outS s = 2 then { s with outs := s.outs.tail } else if s.gen < gen then ⟨slot, gen, s.outs.tail, s.writes + 1⟩ else { s with outs := s.outs.tail }
def callE (s : Ro) (gen slot : Int) : Int := if outS s = 2 then 10 else if outS s = 1 then 10 else if s.gen < gen then 0 else if gen < s.gen ∨ slot ≠ s.slot then 11 else 0
def inRange (gen slot : Int) : Prop := 0 ≤ slot ∧ slot ≤ 1 ∧ 1 ≤ gen ∧ gen ≤ 1048576
end Go.Proofs.Ytchaeidmjoelnaa
