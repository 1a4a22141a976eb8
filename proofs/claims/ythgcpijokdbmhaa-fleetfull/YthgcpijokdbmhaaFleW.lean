/-
  Package fleet's calls as a bundle (PkgF); two fleets in one memory, and blocks of the law's own beside them (Two).
-/
import Derived.Test.YthgcpijokdbmhaaFleE
namespace Go.Proofs.Ythgcpijokdbmhaa
open Go.RowKit

theorem below_drewM (W : World) (n : Nat) : Below W.heap.size W (W.drewN n) := ⟨rfl, by simp, rfl, by simp, fun _ _ => by simp⟩
abbrev FleetIn := (Nat → Prop) → World → Nat → List Bool → List Bool → Prop
/-- How a fleet lies in memory hangs on its blocks alone. -/
structure Keeps (G : FleetIn) : Prop where
  lt : ∀ {O W b k l}, G O W b k l → ∀ j, O j → j < W.heap.size
  keep : ∀ {O W W' b k l}, G O W b k l → (∀ j, O j → W'.heap[j]? = W.heap[j]?) → G O W' b k l
/-- F is how a fleet of the package lies in memory, in blocks of O; its calls are what the document says. -/
structure PkgF (F : FleetIn) : Prop where
  ks : Keeps F
  le : ∀ {O W b k l}, F O W b k l → k.length ≤ 32 ∧ l.length ≤ 32
  new : ∀ W, Calls Try.prog 7 #[] W fun e w' => ∃ b, e = .returned (.pointer (some ⟨b, 0, none⟩)) ∧ NewF F W w' b
  apply : ∀ {O W b k l} (p q : Int), F O W b k l → Calls Try.prog 10 #[.pointer (some ⟨b, 0, none⟩), .agg #[.int .i64 p, .int .i64 q]] W fun e w' => e = .returned (.tuple #[]) ∧ Turn F O W w' b (scaleL k p) (scaleL l q)
  ready : ∀ {O W b k l} (s i : Int) (on : Bool), F O W b k l → Calls Try.prog 12 #[.pointer (some ⟨b, 0, none⟩), .int .i64 s, .int .i64 i, .bool on] W fun e w' => e = .returned (.bool (decide (isW (slotK s k l) i))) ∧ Turn F O W w' b (rdA k s i on) (rdB l s i on)
  fill : ∀ {O W b k l}, F O W b k l → Calls Try.prog 15 #[.pointer (some ⟨b, 0, none⟩)] W fun e w' => e = .returned (.tuple #[]) ∧ Turn F O W w' b (fillL k) (fillL l)
  view : ∀ {O W b k l}, F O W b k l → Calls Try.prog 17 #[.pointer (some ⟨b, 0, none⟩)] W fun e w' => e = .returned (viewK k l) ∧ Below W.heap.size W w'
  full : ∀ {O W b k l} (s : Int), F O W b k l → Calls Try.prog 19 #[.pointer (some ⟨b, 0, none⟩), .int .i64 s] W fun e w' => e = .returned (.bool (fullL (slotK s k l))) ∧ Below W.heap.size W w'
theorem flm_keeps : Keeps FlM where
  lt := fun ⟨_, _, _, _, h⟩ => h.lt
  keep := fun ⟨a, c, va, vc, h⟩ hk => ⟨a, c, va, vc, h.keep hk⟩
/-- The document's fleet, and what its Slot answered. -/
def FlS (x : Nat) (s : Int) : FleetIn := fun O W b k l => ∃ a c va vc, Fm O W b a c va vc k l ∧ SlotP O W a c x s
theorem fls_keeps (x : Nat) (s : Int) : Keeps (FlS x s) where
  lt := fun ⟨_, _, _, _, h, _⟩ => h.lt
  keep := fun ⟨a, c, va, vc, h, hs⟩ hk => ⟨a, c, va, vc, h.keep hk, hs.keep hk⟩
/-- No fleet at all. -/
def NoF : FleetIn := fun O _ _ _ _ => ∀ j, ¬ O j
theorem nof_keeps : Keeps NoF where
  lt := fun h j hj => absurd hj (h j)
  keep := fun h _ => h
/-- Two fleets behind the world w, and blocks X of the law's own, apart from each other. -/
structure Two (F G : FleetIn) (w W : World) (X : List Nat) (b : Nat) (k l : List Bool) (c : Nat) (k' l' : List Bool) : Prop where
  ex : ∃ O P : Nat → Prop, F O W b k l ∧ G P W c k' l' ∧ (∀ j, O j → ¬ P j) ∧ (∀ j, O j → w.heap.size ≤ j ∧ j ∉ X) ∧ (∀ j, P j → w.heap.size ≤ j ∧ j ∉ X)
  low : Below w.heap.size w W
  xlt : ∀ j ∈ X, j < W.heap.size
  xge : ∀ j ∈ X, w.heap.size ≤ j
/-- The law's own blocks are as they were. -/
def SameX (X : List Nat) (W W' : World) : Prop := ∀ j ∈ X, W'.heap[j]? = W.heap[j]?
section
variable {F G G' : FleetIn} {w W W' : World} {X : List Nat} {b c : Nat} {k l k' l' k2 l2 : List Bool}
/-- Nothing that was there turned. -/
theorem Two.keep (hF : Keeps F) (hG : Keeps G) (h : Two F G w W X b k l c k' l') (hb : Below W.heap.size W W') : Two F G w W' X b k l c k' l' ∧ SameX X W W' := by
  obtain ⟨O, P, h1, h2, h3, h4, h5⟩ := h.ex
  exact ⟨⟨⟨O, P, hF.keep h1 (fun j hj => hb.block j (hF.lt h1 j hj)), hG.keep h2 (fun j hj => hb.block j (hG.lt h2 j hj)), h3, h4, h5⟩, h.low.trans (hb.mono h.low.size), fun j hj => Nat.lt_of_lt_of_le (h.xlt j hj) hb.size, h.xge⟩, fun j hj => hb.block j (h.xlt j hj)⟩
/-- A new block of the law's own. -/
theorem Two.alloc (hF : Keeps F) (hG : Keeps G) (h : Two F G w W X b k l c k' l') (o : Obj) : Two F G w (W.alloc o) (W.heap.size :: X) b k l c k' l' := by
  obtain ⟨O, P, h1, h2, h3, h4, h5⟩ := h.ex
  have hb := below_alloc W o
  refine ⟨⟨O, P, hF.keep h1 (fun j hj => hb.block j (hF.lt h1 j hj)), hG.keep h2 (fun j hj => hb.block j (hG.lt h2 j hj)), h3, fun j hj => ⟨(h4 j hj).1, ?_⟩, fun j hj => ⟨(h5 j hj).1, ?_⟩⟩, h.low.trans (hb.mono h.low.size), ?_, ?_⟩
  · rw [List.mem_cons, not_or]
    exact ⟨fun e => by have := hF.lt h1 j hj; omega, (h4 j hj).2⟩
  · rw [List.mem_cons, not_or]
    exact ⟨fun e => by have := hG.lt h2 j hj; omega, (h5 j hj).2⟩
  · intro j hj
    rcases List.mem_cons.1 hj with e | e
    · rw [e, World.size_alloc]; omega
    · exact Nat.lt_of_lt_of_le (h.xlt j e) hb.size
  · intro j hj
    rcases List.mem_cons.1 hj with e | e
    · rw [e]; exact h.low.size
    · exact h.xge j e
/-- A block of the law's own is written. -/
theorem Two.set (hF : Keeps F) (hG : Keeps G) (h : Two F G w W X b k l c k' l') {A : Nat} (hA : A ∈ X) (i : Nat) (u : Value) : Two F G w (W.setCell ⟨A, i, none⟩ u) X b k l c k' l' := by
  obtain ⟨O, P, h1, h2, h3, h4, h5⟩ := h.ex
  exact ⟨⟨O, P, hF.keep h1 (fun j hj => Below.heap_setCell W ⟨A, i, none⟩ u j (fun e => (h4 j hj).2 (by rw [e]; exact hA))), hG.keep h2 (fun j hj => Below.heap_setCell W ⟨A, i, none⟩ u j (fun e => (h5 j hj).2 (by rw [e]; exact hA))), h3, h4, h5⟩, below_setNew h.low A i u (h.xge A hA), fun j hj => by simpa [World.setCell] using h.xlt j hj, h.xge⟩
/-- Blocks of the law's own that aren't wanted any more. -/
theorem Two.fewer {Y : List Nat} (h : Two F G w W X b k l c k' l') (hY : ∀ j ∈ Y, j ∈ X) : Two F G w W Y b k l c k' l' := by
  obtain ⟨O, P, h1, h2, h3, h4, h5⟩ := h.ex
  exact ⟨⟨O, P, h1, h2, h3, fun j hj => ⟨(h4 j hj).1, fun e => (h4 j hj).2 (hY j e)⟩, fun j hj => ⟨(h5 j hj).1, fun e => (h5 j hj).2 (hY j e)⟩⟩, h.low, fun j hj => h.xlt j (hY j hj), fun j hj => h.xge j (hY j hj)⟩
/-- The first one turned. -/
theorem Two.first (hG : Keeps G) (h : Two F G w W X b k l c k' l') {f : FuncId} {args : Array Value} {Pe : Ending → Prop} (hc : ∀ O, F O W b k l → Calls Try.prog f args W fun e w' => Pe e ∧ Turn F O W w' b k2 l2) : Calls Try.prog f args W fun e w' => Pe e ∧ Two F G w w' X b k2 l2 c k' l' ∧ SameX X W w' := by
  obtain ⟨O, P, h1, h2, h3, h4, h5⟩ := h.ex
  refine (hc O h1).mono fun e w' ⟨he, O', g1, g2, g3⟩ => ⟨he, ⟨⟨O', P, g1, hG.keep h2 (fun j hj => g3.block j (hG.lt h2 j hj) (fun ho => h3 j ho hj)), fun j hj hp => ?_, fun j hj => ?_, h5⟩, g3.below h.low (fun j hj => (h4 j hj).1) h.low.size, fun j hj => Nat.lt_of_lt_of_le (h.xlt j hj) g3.size, h.xge⟩, fun j hj => g3.block j (h.xlt j hj) (fun ho => (h4 j ho).2 hj)⟩
  · rcases g2 j hj with e | e
    · exact h3 j e hp
    · have := hG.lt h2 j hp; omega
  · rcases g2 j hj with e | e
    · exact h4 j e
    · exact ⟨Nat.le_trans h.low.size e, fun hx => by have := h.xlt j hx; omega⟩
/-- The second one turned. -/
theorem Two.second (hF : Keeps F) (h : Two F G w W X b k l c k' l') {f : FuncId} {args : Array Value} {Pe : Ending → Prop} (hc : ∀ O, G O W c k' l' → Calls Try.prog f args W fun e w' => Pe e ∧ Turn G' O W w' c k2 l2) : Calls Try.prog f args W fun e w' => Pe e ∧ Two F G' w w' X b k l c k2 l2 ∧ SameX X W w' := by
  obtain ⟨O, P, h1, h2, h3, h4, h5⟩ := h.ex
  refine (hc P h2).mono fun e w' ⟨he, P', g1, g2, g3⟩ => ⟨he, ⟨⟨O, P', hF.keep h1 (fun j hj => g3.block j (hF.lt h1 j hj) (fun hp => h3 j hj hp)), g1, fun j ho hj => ?_, h4, fun j hj => ?_⟩, g3.below h.low (fun j hj => (h5 j hj).1) h.low.size, fun j hj => Nat.lt_of_lt_of_le (h.xlt j hj) g3.size, h.xge⟩, fun j hj => g3.block j (h.xlt j hj) (fun hp => (h5 j hp).2 hj)⟩
  · rcases g2 j hj with e | e
    · exact h3 j ho e
    · have := hF.lt h1 j ho; omega
  · rcases g2 j hj with e | e
    · exact h5 j e
    · exact ⟨Nat.le_trans h.low.size e, fun hx => by have := h.xlt j hx; omega⟩
/-- What is read of the first one, of the second one. -/
theorem Two.look1 (hF : Keeps F) (hG : Keeps G) (h : Two F G w W X b k l c k' l') {f : FuncId} {args : Array Value} {Pe : Ending → Prop} (hc : ∀ O, F O W b k l → Calls Try.prog f args W fun e w' => Pe e ∧ Below W.heap.size W w') : Calls Try.prog f args W fun e w' => Pe e ∧ Two F G w w' X b k l c k' l' ∧ SameX X W w' := by
  obtain ⟨O, P, h1, _⟩ := h.ex
  exact (hc O h1).mono fun e w' ⟨he, hb⟩ => ⟨he, h.keep hF hG hb⟩
theorem Two.look2 (hF : Keeps F) (hG : Keeps G) (h : Two F G w W X b k l c k' l') {f : FuncId} {args : Array Value} {Pe : Ending → Prop} (hc : ∀ O, G O W c k' l' → Calls Try.prog f args W fun e w' => Pe e ∧ Below W.heap.size W w') : Calls Try.prog f args W fun e w' => Pe e ∧ Two F G w w' X b k l c k' l' ∧ SameX X W w' := by
  obtain ⟨O, P, _, h2, _⟩ := h.ex
  exact (hc P h2).mono fun e w' ⟨he, hb⟩ => ⟨he, h.keep hF hG hb⟩
/-- The package's calls on the first one. -/
theorem two_apply (hp : PkgF F) (hG : Keeps G) (p q : Int) (h : Two F G w W X b k l c k' l') : Calls Try.prog 10 #[.pointer (some ⟨b, 0, none⟩), .agg #[.int .i64 p, .int .i64 q]] W fun e w' => e = .returned (.tuple #[]) ∧ Two F G w w' X b (scaleL k p) (scaleL l q) c k' l' ∧ SameX X W w' := h.first hG fun _ h1 => hp.apply p q h1
theorem two_ready (hp : PkgF F) (hG : Keeps G) (s i : Int) (on : Bool) (h : Two F G w W X b k l c k' l') : Calls Try.prog 12 #[.pointer (some ⟨b, 0, none⟩), .int .i64 s, .int .i64 i, .bool on] W fun e w' => e = .returned (.bool (decide (isW (slotK s k l) i))) ∧ Two F G w w' X b (rdA k s i on) (rdB l s i on) c k' l' ∧ SameX X W w' := h.first hG fun _ h1 => hp.ready s i on h1
theorem two_fill (hp : PkgF F) (hG : Keeps G) (h : Two F G w W X b k l c k' l') : Calls Try.prog 15 #[.pointer (some ⟨b, 0, none⟩)] W fun e w' => e = .returned (.tuple #[]) ∧ Two F G w w' X b (fillL k) (fillL l) c k' l' ∧ SameX X W w' := h.first hG fun _ h1 => hp.fill h1
theorem two_view (hp : PkgF F) (hG : Keeps G) (h : Two F G w W X b k l c k' l') : Calls Try.prog 17 #[.pointer (some ⟨b, 0, none⟩)] W fun e w' => e = .returned (viewK k l) ∧ Two F G w w' X b k l c k' l' ∧ SameX X W w' := h.look1 hp.ks hG fun _ h1 => hp.view h1
theorem two_full (hp : PkgF F) (hG : Keeps G) (s : Int) (h : Two F G w W X b k l c k' l') : Calls Try.prog 19 #[.pointer (some ⟨b, 0, none⟩), .int .i64 s] W fun e w' => e = .returned (.bool (fullL (slotK s k l))) ∧ Two F G w w' X b k l c k' l' ∧ SameX X W w' := h.look1 hp.ks hG fun _ h1 => hp.full s h1
/-- The document's calls on the second one. -/
theorem twom_apply (hF : Keeps F) (p q : Int) (h : Two F FlM w W X b k l c k' l') : Calls Try.prog 11 #[.pointer (some ⟨c, 0, none⟩), .agg #[.int .i64 p, .int .i64 q]] W fun e w' => e = .returned (.tuple #[]) ∧ Two F FlM w w' X b k l c (scaleL k' p) (scaleL l' q) ∧ SameX X W w' := h.second hF fun _ ⟨_, _, _, _, h1⟩ => mapply_any p q h1
theorem twom_fill (hF : Keeps F) (h : Two F FlM w W X b k l c k' l') : Calls Try.prog 16 #[.pointer (some ⟨c, 0, none⟩)] W fun e w' => e = .returned (.tuple #[]) ∧ Two F FlM w w' X b k l c (fillL k') (fillL l') ∧ SameX X W w' := h.second hF fun _ ⟨_, _, _, _, h1⟩ => mfill_any h1
theorem twom_view (hF : Keeps F) (h : Two F FlM w W X b k l c k' l') : Calls Try.prog 18 #[.pointer (some ⟨c, 0, none⟩)] W fun e w' => e = .returned (viewK k' l') ∧ Two F FlM w w' X b k l c k' l' ∧ SameX X W w' := h.look2 hF flm_keeps fun _ ⟨_, _, _, _, h1⟩ => mview_any h1
theorem twom_slot (hF : Keeps F) (s : Int) (h : Two F FlM w W X b k l c k' l') : Calls Try.prog 13 #[.pointer (some ⟨c, 0, none⟩), .int .i64 s] W fun e w' => ∃ x, e = .returned (.pointer (some ⟨x, 0, none⟩)) ∧ Two F (FlS x s) w w' X b k l c k' l' ∧ SameX X W w' := by
  obtain ⟨O, P, h1, ⟨a, c', va, vc, h2⟩, h3, h4, h5⟩ := h.ex
  refine (mslot_any s h2).mono fun e w' ⟨x, P', he, g1, g2, g3, g4⟩ => ⟨x, he, ?_⟩
  have hk := h.keep hF flm_keeps g4
  refine ⟨⟨⟨O, P', hF.keep h1 (fun j hj => g4.block j (hF.lt h1 j hj)), ⟨a, c', va, vc, g1, g2⟩, fun j ho hj => ?_, h4, fun j hj => ?_⟩, hk.1.low, hk.1.xlt, hk.1.xge⟩, hk.2⟩
  · rcases g3 j hj with e | e
    · exact h3 j ho e
    · have := hF.lt h1 j ho; omega
  · rcases g3 j hj with e | e
    · exact h5 j e
    · exact ⟨Nat.le_trans h.low.size e, fun hx => by have := h.xlt j hx; omega⟩
theorem twom_ready (hF : Keeps F) {x : Nat} {s : Int} (i : Int) (on : Bool) (h : Two F (FlS x s) w W X b k l c k' l') : Calls Try.prog 14 #[.pointer (some ⟨x, 0, none⟩), .int .i64 i, .bool on] W fun e w' => e = .returned (.bool (decide (isW (slotK s k' l') i))) ∧ Two F FlM w w' X b k l c (rdA k' s i on) (rdB l' s i on) ∧ SameX X W w' := h.second hF fun _ ⟨_, _, _, _, h1, h2⟩ => mready_at i on h1 h2
theorem Two.unslot {x : Nat} {s : Int} (h : Two F (FlS x s) w W X b k l c k' l') : Two F FlM w W X b k l c k' l' := by
  obtain ⟨O, P, h1, ⟨a, c', va, vc, h2, _⟩, h3⟩ := h.ex
  exact ⟨⟨O, P, h1, ⟨a, c', va, vc, h2⟩, h3⟩, h.low, h.xlt, h.xge⟩
theorem twom_full (hF : Keeps F) {x : Nat} {s : Int} (h : Two F (FlS x s) w W X b k l c k' l') : Calls Try.prog 20 #[.pointer (some ⟨x, 0, none⟩)] W fun e w' => e = .returned (.bool (fullL (slotK s k' l'))) ∧ Two F FlM w w' X b k l c k' l' ∧ SameX X W w' :=
  (h.look2 hF (fls_keeps x s) fun _ ⟨_, _, _, _, h1, h2⟩ => (mfull_at h1 h2).mono fun _ _ ⟨he, m, hm⟩ => ⟨he, by rw [hm]; exact below_drewM _ _⟩).mono fun _ _ ⟨he, h1, h2⟩ => ⟨he, h1.unslot, h2⟩
/-- A fleet begins; a second one begins. -/
theorem two_new (hp : PkgF F) (w : World) : Calls Try.prog 7 #[] w fun e w' => ∃ b, e = .returned (.pointer (some ⟨b, 0, none⟩)) ∧ Two F NoF w w' [] b [] [] 0 [] [] :=
  (hp.new w).mono fun _ _ ⟨b, he, O, h1, h2, h3⟩ => ⟨b, he, ⟨O, fun _ => False, h1, fun _ h => h, fun _ _ h => h, fun j hj => ⟨h2 j hj, by simp⟩, fun _ h => h.elim⟩, h3, fun j hj => by simp at hj, fun j hj => by simp at hj⟩
theorem two_join (hF : Keeps F) (h : Two F NoF w W X b k l 0 [] []) {Oc : Nat → Prop} (h1 : G Oc W' c k' l') (h2 : ∀ j, Oc j → W.heap.size ≤ j) (h3 : Below W.heap.size W W') : Two F G w W' X b k l c k' l' := by
  obtain ⟨O, P, g1, _, _, g4, _⟩ := h.ex
  exact ⟨⟨O, Oc, hF.keep g1 (fun j hj => h3.block j (hF.lt g1 j hj)), h1, fun j ho hj => by have := hF.lt g1 j ho; have := h2 j hj; omega, g4, fun j hj => ⟨Nat.le_trans h.low.size (h2 j hj), fun hx => by have := h.xlt j hx; have := h2 j hj; omega⟩⟩, h.low.trans (h3.mono h.low.size), fun j hj => Nat.lt_of_lt_of_le (h.xlt j hj) h3.size, h.xge⟩
theorem two_new2 (hp : PkgF F) (h : Two F NoF w W X b k l 0 [] []) : Calls Try.prog 7 #[] W fun e w' => ∃ c, e = .returned (.pointer (some ⟨c, 0, none⟩)) ∧ Two F F w w' X b k l c [] [] :=
  (hp.new W).mono fun _ _ ⟨c, he, _, h1, h2, h3⟩ => ⟨c, he, two_join hp.ks h h1 h2 h3⟩
theorem two_newm (hF : Keeps F) (h : Two F NoF w W X b k l 0 [] []) : Calls Try.prog 8 #[] W fun e w' => ∃ c, e = .returned (.pointer (some ⟨c, 0, none⟩)) ∧ Two F FlM w w' X b k l c [] [] :=
  (mnew_any W).mono fun _ _ ⟨c, he, _, h1, h2, h3⟩ => ⟨c, he, two_join hF h h1 h2 h3⟩
/-- The second one's calls, where both are the package's. -/
theorem two_swap (h : Two F G w W X b k l c k' l') : Two G F w W X c k' l' b k l := by
  obtain ⟨O, P, h1, h2, h3, h4, h5⟩ := h.ex
  exact ⟨⟨P, O, h2, h1, fun j hp ho => h3 j ho hp, h5, h4⟩, h.low, h.xlt, h.xge⟩
end
end Go.Proofs.Ythgcpijokdbmhaa
