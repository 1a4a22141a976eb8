/-
  What Next's walk shares: three blocks made, the results read.
-/
import Derived.Test.YtmodacieflcheaaPlnF
import Derived.Test.YtmodacieflcheaaStStepK
import Derived.Test.YtmodacieflcheaaEqs
namespace Go.Proofs.Ytmodacieflcheaa
open Go.RowKit

theorem Rw.drewN {W : World} {b : Nat} {cs : Array Value} {t : TypeId} (h : Rw W b cs t) (n : Nat) : Rw (W.drewN n) b cs t := by
  unfold Rw at h ⊢
  simpa using h
theorem iv4 : (Try.prog.info? 27).map (·.size) = some 4 := by kernel_rfl
theorem recC_one (r : Rc) : (recC r).all (·.oneCell') = true := by simp [recC, Value.oneCell']
theorem results_tmp_cell {P : Program} {fn : Func} {p q : Tmp} {ty : TypeId} (h : fn.results = #[.tmp q, .cell p ty]) (tmps : Array Value) (w : World) (g : Nat) (t : TypeId) (cs : Array Value) (fr : Nat × Nat) (d : TypeDesc)
    (hp : tmps.getD p undef = .pointer (some ⟨g, 0, none⟩)) (hg : w.heap[g]? = some (.cells cs t fr))
    (hu : P.underlying ty = some d) (hd : (match d with | .struct _ | .array _ _ => true | _ => false) = true) (hi : (P.info? ty).map (·.size) = some cs.size) :
    (results fn tmps).run P w = .ok (.tuple #[tmps.getD q undef, .agg cs]) w := by
  have hp' : tmps[p]?.getD undef = .pointer (some ⟨g, 0, none⟩) := by simpa using hp
  simp [results, h, hp', asAddr, run_loadVar_row w g t ty cs fr d hg hu hd hi]
theorem three_rows (w : World) (cs vs x : Array Value) : Rw (((w.alloc (.cells cs 25)).alloc (.cells vs 27)).alloc (.cells x 31)) w.heap.size cs 25 ∧ Rw (((w.alloc (.cells cs 25)).alloc (.cells vs 27)).alloc (.cells x 31)) (w.heap.size + 1) vs 27 ∧ Rw (((w.alloc (.cells cs 25)).alloc (.cells vs 27)).alloc (.cells x 31)) (w.heap.size + 1 + 1) x 31 ∧ Below w.heap.size w (((w.alloc (.cells cs 25)).alloc (.cells vs 27)).alloc (.cells x 31)) := by
  have h0 := ((Rw.new w cs 25).alloc (.cells vs 27)).alloc (.cells x 31)
  have h1 := (Rw.new (w.alloc (.cells cs 25)) vs 27).alloc (.cells x 31)
  have h2 := Rw.new ((w.alloc (.cells cs 25)).alloc (.cells vs 27)) x 31
  simp only [size_alloc] at h1 h2
  exact ⟨h0, h1, h2, (((Below.refl _ _).alloc (Nat.le_refl _) _).alloc (by simp) _).alloc (by simp; omega) _⟩
end Go.Proofs.Ytmodacieflcheaa
