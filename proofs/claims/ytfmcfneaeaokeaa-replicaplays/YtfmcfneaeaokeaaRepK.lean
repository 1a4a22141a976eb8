/-
  A map of bools by numbers, as a function: MapB.
-/
import Derived.Test.YtfmcfneaeaokeaaRepM
import Derived.Maps.OwnSet
import Derived.Maps.RangeWalk
namespace Go.Proofs.Ytfmcfneaeaokeaa
open Go.RowKit Go.Maps

def heldR : Value → Option (DataW Value × List MemPlace) := fun v => some (.held v, [])
theorem law3 : Keyed Try.prog 3 := int_keyed Try.underlying3
theorem zero4 (w : World) : (zeroValue 4).run Try.prog w = .ok (.bool false) w := by kernel_rfl
theorem wf_of {i : Int} (h : Fits i) : (Lit.int .i64 i).wf = true := WalkArith.wf_i64 (by unfold Fits at h; omega)
theorem key_of {i : Int} (h : Fits i) : keyOf Try.prog 3 (.int .i64 i) = some (.int .i64 i) := keyOf_int_mk Try.underlying3 (wf_of h)
theorem isKey (i : Int) : WideAt.IsKeyLit (.int .i64 i) := by trivial
/-- The datum D says g. -/
structure Says (D : DataW Value) (g : Int → Option Bool) : Prop where
  at' : ∀ i, D.atKey (.int .i64 i) (.held (.bool false)) = .held (.bool ((g i).getD false))
  has : ∀ i, Maps.has D (.int .i64 i) = (g i).isSome
theorem says_new : Says (.map []) (fun _ => none) := ⟨fun _ => rfl, fun _ => rfl⟩
theorem Says.put {D : DataW Value} {g : Int → Option Bool} (h : Says D g) (hm : IsMap D) (i : Int) (x : Bool) : Says (D.put (.int .i64 i) (.held (.bool x))) (fun j => if j = i then some x else g j) := by
  constructor
  · intro j
    by_cases hj : j = i
    · subst hj
      rw [atKey_put_same hm (isKey j), if_pos rfl]
      rfl
    · rw [atKey_put_other (by intro e; injection e with _ e; exact hj e), if_neg hj]
      exact h.at' j
  · intro j
    by_cases hj : j = i
    · subst hj
      rw [has_put_same hm (isKey j), if_pos rfl]
      rfl
    · rw [has_put_other (by intro e; injection e with _ e; exact hj e), if_neg hj]
      exact h.has j
/-- Block m is a map of at most n entries, sz of them, that says g. -/
def MapB (W : World) (m n : Nat) (g : Int → Option Bool) (sz : Nat) : Prop := ∃ D, W.ownsMap Try.prog 3 heldR m n D ∧ Says D g ∧ Maps.size D = sz
theorem mapB_new (W : World) : MapB (W.alloc (.map #[] 0)) W.heap.size 0 (fun _ => none) 0 := ⟨_, World.ownsMap_made W _ _ _, says_new, rfl⟩
section
variable {W W' : World} {m n sz : Nat} {g : Int → Option Bool}
theorem MapB.lt (h : MapB W m n g sz) : m < W.heap.size := by
  obtain ⟨D, h, _⟩ := h
  exact h.lt
theorem MapB.blk (h : MapB W m n g sz) : ∃ es c, W.heap[m]? = some (.map es c) := by
  obtain ⟨D, ⟨es, c, h, _⟩, _⟩ := h
  exact ⟨es, c, h⟩
theorem MapB.keep (h : MapB W m n g sz) (hk : W'.heap[m]? = W.heap[m]?) : MapB W' m n g sz := by
  obtain ⟨D, ⟨es, c, h1, h2⟩, h3⟩ := h
  exact ⟨D, ⟨es, c, hk.trans h1, h2⟩, h3⟩
theorem MapB.put (h : MapB W m n g sz) (hn : n < 1000000) {i : Int} (hi : Fits i) (x : Bool) :
    ∃ W', (Instr.mapUpdate 37 (.map (some m)) (.int .i64 i) (.bool x)).run Try.prog W = .ok () W' ∧ MapB W' m (n + 1) (fun j => if j = i then some x else g j) (if (g i).isSome then sz else sz + 1) ∧ W.grownBy W' (some m) := by
  obtain ⟨D, h1, h2, h3⟩ := h
  obtain ⟨W', hr, ho, hg⟩ := h1.update law3 Try.underlying37 (by unfold maxLen; omega) (key_of hi) (show heldR (.bool x) = some (.held (.bool x), []) from rfl)
  refine ⟨W', hr, ⟨_, ho, h2.put h1.isMap i x, ?_⟩, hg⟩
  rw [size_put (h1.tidy law3), h2.has, h3]
theorem MapB.len (h : MapB W m n g sz) (ty : TypeId) : (Builtin.len_ #[37] ty #[.map (some m)]).run Try.prog W = .ok (.int .i64 (sz : Int)) W := by
  obtain ⟨D, h1, _, h3⟩ := h
  rw [h1.len Try.underlying37 ty, h3]
theorem MapB.look (h : MapB W m n g sz) {i : Int} (hi : Fits i) : (Instr.lookup 37 (.map (some m)) (.int .i64 i) false).run Try.prog W = .ok (.bool ((g i).getD false)) W := by
  obtain ⟨D, h1, h2, _⟩ := h
  obtain ⟨v, ps, hr, hv⟩ := h1.lookup law3 Try.underlying37 (zero4 W) (show heldR (.bool false) = some (.held (.bool false), []) from rfl) (key_of hi)
  rw [h2.at' i] at hv
  have e : v = .bool ((g i).getD false) := by
    unfold heldR at hv
    have h5 : v = .bool ((g i).getD false) ∧ ps = [] := by simpa using hv
    exact h5.1
  rw [hr, e]
theorem MapB.mono (h : MapB W m n g sz) {k : Nat} (hk : n ≤ k) : MapB W m k g sz := by
  obtain ⟨D, h1, h2⟩ := h
  exact ⟨D, h1.mono hk, h2⟩
end
end Go.Proofs.Ytfmcfneaeaokeaa
