/-
  What ReplicaOrder needs: how each replica was made last; a range over that map; how many are ready.
-/
import Derived.Test.YtfmcfneaeaokeaaGof
namespace Go.Proofs.Ytfmcfneaeaokeaa
open Go.RowKit Go.Maps

/-- g says how each was made last. -/
structure LastIs (l : List Bool) (g : Int → Option Bool) : Prop where
  inside : ∀ i, (g i).isSome = true → isW l i
  says : ∀ i : Nat, i < l.length → (g i).getD false = l.getD i false
theorem last_new (n : Nat) : LastIs (List.replicate n false) (fun _ => none) where
  inside := fun i h => by cases h
  says := fun i _ => by
    show false = _
    rw [List.getD_eq_getElem?_getD, List.getElem?_replicate]
    split <;> rfl
theorem LastIs.put {l : List Bool} {g : Int → Option Bool} (h : LastIs l g) {x : Int} (hx : isW l x) (on : Bool) : LastIs (readyL l x on) (fun j => if j = x then some on else g j) where
  inside := fun i hi => by
    rw [isW_ready]
    by_cases e : i = x
    · rw [e]; exact hx
    · rw [if_neg e] at hi
      exact h.inside i hi
  says := fun i hi => by
    rw [readyL_len] at hi
    rw [ready_getD]
    by_cases e : (i : Int) = x
    · rw [if_pos e, if_pos ⟨hx, e⟩]; rfl
    · rw [if_neg e, if_neg (fun h2 => e h2.2)]
      exact h.says i hi
/-- A range over the map under way: left are the keys that are still to come. -/
def RngB (W : World) (m r n : Nat) (g : Int → Option Bool) (left : Int → Bool) (cnt : Nat) : Prop :=
  ∃ (D : DataW Value) (lf : Lit → Bool), W.ranges Try.prog 3 heldR m r n D lf cnt ∧ Says D g ∧ (∀ i, left i = lf (.int .i64 i)) ∧ ∀ i, left i = true → (g i).isSome = true
theorem heldR_inv {v : Value} {y : DataW Value × List MemPlace} (h : heldR v = some y) : y = (.held v, []) := by
  unfold heldR at h
  exact (Option.some.inj h).symm
section
variable {W W' : World} {m r n sz cnt : Nat} {g : Int → Option Bool} {left : Int → Bool}
theorem MapB.range (h : MapB W m n g sz) : ∃ W' cnt, (Instr.range 37 (.map (some m))).run Try.prog W = .ok (.pointer (some ⟨W.heap.size, 0, none⟩)) W' ∧ RngB W' m W.heap.size n g (fun i => (g i).isSome) cnt ∧ W.grownBy W' none ∧ W'.heap.size = W.heap.size + 1 := by
  obtain ⟨D, h1, h2, _⟩ := h
  obtain ⟨W', hr, hrg, hg, hs⟩ := h1.range law3 Try.underlying37
  exact ⟨W', _, hr, ⟨D, _, hrg, h2, fun i => (h2.has i).symm, fun i hi => hi⟩, hg, hs⟩
theorem RngB.next (h : RngB W m r n g left cnt) (ty : TypeId) :
    ((∀ i, left i = false) ∧ (Instr.next (.pointer (some ⟨r, 0, none⟩)) false ty).run Try.prog W = .ok (.tuple #[.bool false]) W) ∨
    ∃ (x : Int) (W' : World) (cnt' : Nat), left x = true ∧ (Instr.next (.pointer (some ⟨r, 0, none⟩)) false ty).run Try.prog W = .ok (.tuple #[.bool true, .int .i64 x, .bool ((g x).getD false)]) W' ∧
      RngB W' m r n g (fun j => left j && !decide (j = x)) cnt' ∧ cnt' < cnt ∧ W.grownBy W' (some r) ∧ W'.heap.size = W.heap.size ∧ (Instr.entry (.pointer (some ⟨r, 0, none⟩))).run Try.prog W' = .ok (.tuple #[.int .i64 x, .bool ((g x).getD false)]) W' := by
  obtain ⟨D, lf, h1, h2, h3, h4⟩ := h
  rcases h1.next law3 ty with ⟨_, h0, hrun⟩ | ⟨key, v, kl, y, W', cnt', hkey, hlk, hv, hat, hrun, hrg, hlt, hgr, hsz, hen⟩
  · exact .inl ⟨fun i => by rw [h3]; exact h0 _, hrun⟩
  · obtain ⟨x, rfl, rfl, _⟩ := Maps.keyOf_int_inv Try.underlying3 hkey
    obtain rfl := heldR_inv hv
    have hv2 : v = .bool ((g x).getD false) := by
      have e1 := hat (.held (.bool false))
      rw [h2.at' x] at e1
      injection e1 with e1
      exact e1.symm
    subst hv2
    refine .inr ⟨x, W', cnt', by rw [h3]; exact hlk, hrun, ⟨D, _, hrg, h2, fun j => ?_, fun j hj => h4 j (by simp at hj; exact hj.1)⟩, hlt, hgr, hsz, hen⟩
    show (left j && !decide (j = x)) = (lf (.int .i64 j) && !(Lit.int .i64 j).sameKey (.int .i64 x))
    rw [h3 j]
    congr 1
    congr 1
    by_cases e : j = x
    · subst e
      rw [decide_eq_true rfl, WideAt.sameKey_self (isKey j)]
    · rw [decide_eq_false e, sameKey_ne (by intro e2; injection e2 with _ e2; exact e e2)]
theorem RngB.inside (h : RngB W m r n g left cnt) (x : Int) (hx : left x = true) : (g x).isSome = true := by
  obtain ⟨D, lf, _, _, _, h4⟩ := h
  exact h4 x hx
theorem RngB.blk (h : RngB W m r n g left cnt) : ∃ s sn c, W.heap[r]? = some (.mapIter (some m) s sn c) := by
  obtain ⟨D, lf, ⟨es, clock, since, seen, c0, _, _, _, _, h1, _⟩, _⟩ := h
  exact ⟨_, _, _, h1⟩
end
/-- The Set is as it was: the range's own block was written. -/
theorem PS.ranged {R : World → Nat → List Bool → Prop} {w W W' : World} {b m r n cnt : Nat} {l : List Bool} {g : Int → Option Bool} {left : Int → Bool} (hp : Pkg R) (h : PS R w W b l) (hr : RngB W m r n g left cnt) (hg : W.grownBy W' (some r)) (hw : w.heap.size ≤ r) : PS R w W' b l :=
  h.grown hp hg (fun e => by
    obtain ⟨s, sn, c, h1⟩ := hr.blk
    obtain ⟨c', h2⟩ := hp.kind h.r
    rw [e, h2] at h1
    cases h1) hw
/-- How many ready ones have come. -/
def seenL (l : List Bool) (g : Int → Option Bool) (left : Int → Bool) : Nat := (List.range l.length).countP fun i => l.getD i false && (g i).isSome && !left i
theorem countP_one {p q : Nat → Bool} {x : Nat} (hpq : ∀ i, i ≠ x → q i = p i) (hp : p x = false) : ∀ N, (List.range N).countP q = (List.range N).countP p + (if x < N ∧ q x = true then 1 else 0)
  | 0 => by simp
  | N + 1 => by
    rw [List.range_succ, List.countP_append, List.countP_append, countP_one hpq hp N]
    by_cases e : N = x
    · subst e
      rw [if_neg (by omega)]
      simp only [List.countP_cons, List.countP_nil, hp]
      cases hq : q N <;> simp
    · have h1 := hpq N e
      have e3 : (x < N + 1 ∧ q x = true) ↔ (x < N ∧ q x = true) := ⟨fun ⟨a, b⟩ => ⟨by omega, b⟩, fun ⟨a, b⟩ => ⟨by omega, b⟩⟩
      simp only [List.countP_cons, List.countP_nil, h1, e3]
      omega
theorem seen_start (l : List Bool) (g : Int → Option Bool) : seenL l g (fun i => (g i).isSome) = 0 := by
  unfold seenL
  rw [List.countP_eq_zero]
  intro i _
  rw [Bool.and_assoc, Bool.and_not_self, Bool.and_false]
  decide
theorem seen_end {l : List Bool} {g : Int → Option Bool} {left : Int → Bool} (h : LastIs l g) (h0 : ∀ i, left i = false) : seenL l g left = cntL l := by
  have e1 : cntL l = (List.range l.length).countP fun i => l.getD i false := by
    have e : l = (List.range l.length).map (fun i => l.getD i false) := by
      apply List.ext_getElem (by simp)
      intro k h1 h2
      simp [List.getD_eq_getElem?_getD, h1]
    unfold cntL
    rw [e, List.countP_map, ← e]
    rfl
  rw [e1]
  unfold seenL
  apply List.countP_congr
  intro i hi
  have hi2 : i < l.length := by simpa using hi
  have h2 := h.says i hi2
  rw [h0]
  cases hx : l.getD i false with
  | false => simp
  | true =>
    rw [hx] at h2
    cases hg : g (i : Int) with
    | none => rw [hg] at h2; cases h2
    | some y => simp
theorem seen_step {l : List Bool} {g : Int → Option Bool} {left : Int → Bool} {x : Int} (h : LastIs l g) (hl : left x = true) (hs : (g x).isSome = true) : seenL l g (fun j => left j && !decide (j = x)) = seenL l g left + (if (g x).getD false = true then 1 else 0) := by
  have hW := h.inside x hs
  unfold isW at hW
  obtain ⟨k, rfl⟩ : ∃ k : Nat, x = k := ⟨x.toNat, by omega⟩
  unfold seenL
  rw [countP_one (p := fun i => l.getD i false && (g i).isSome && !left i) (x := k) (fun i hi => by
    have e : decide ((i : Int) = (k : Int)) = false := decide_eq_false (by omega)
    simp [e]) (by simp [hl])]
  rw [h.says k (by omega)]
  congr 1
  have e : k < l.length := by omega
  have e2 : decide ((k : Int) = (k : Int)) = true := decide_eq_true rfl
  cases l.getD k false <;> simp [e, hs]
end Go.Proofs.Ytfmcfneaeaokeaa
