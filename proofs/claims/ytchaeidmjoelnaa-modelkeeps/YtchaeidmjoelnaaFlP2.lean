/-
  Package fleet's calls as a bundle (PkgF); two fleets in one memory, and blocks of the law's own beside them (Two).
  Package fleet in memory: a block of two pointers, two Sets of package replica; its calls are what the document says (PkgF).
-/
import Derived.Test.YtchaeidmjoelnaaFleE
import Derived.Test.YtchaeidmjoelnaaRepP
namespace Go.Proofs.Ytchaeidmjoelnaa
open Go.RowKit

theorem below_drewM (W : World) (n : Nat) : Below W.heap.size W (W.drewN n) := ⟨rfl, by simp, rfl, by simp, fun _ _ => by simp⟩
abbrev FleetIn := (Nat → Prop) → World → Nat → List Bool → List Bool → Prop
/-- How a fleet lies in memory hangs on its blocks alone. -/
structure Keeps (G : FleetIn) : Prop where
  lt : ∀ {O W b k l}, G O W b k l → ∀ j, O j → j < W.heap.size
  keep : ∀ {O W W' b k l}, G O W b k l → (∀ j, O j → W'.heap[j]? = W.heap[j]?) → G O W' b k l
/-- F is how a fleet of the package lies in memory, in blocks of O; its calls are what the document says. -/
structure PkgF (F : FleetIn) : Prop where
  ks : Keeps F
  le : ∀ {O W b k l}, F O W b k l → k.length ≤ 32 ∧ l.length ≤ 32
  new : ∀ W, Calls Try.prog 22 #[] W fun e w' => ∃ b, e = .returned (.pointer (some ⟨b, 0, none⟩)) ∧ NewF F W w' b
  apply : ∀ {O W b k l} (p q : Int), F O W b k l → Calls Try.prog 39 #[.pointer (some ⟨b, 0, none⟩), .agg #[.int .i64 p, .int .i64 q]] W fun e w' => e = .returned (.tuple #[]) ∧ Turn F O W w' b (scaleL k p) (scaleL l q)
  ready : ∀ {O W b k l} (s i : Int) (on : Bool), F O W b k l → Calls Try.prog 36 #[.pointer (some ⟨b, 0, none⟩), .int .i64 s, .int .i64 i, .bool on] W fun e w' => e = .returned (.bool (decide (isW (slotK s k l) i))) ∧ Turn F O W w' b (rdA k s i on) (rdB l s i on)
  fill : ∀ {O W b k l}, F O W b k l → Calls Try.prog 26 #[.pointer (some ⟨b, 0, none⟩)] W fun e w' => e = .returned (.tuple #[]) ∧ Turn F O W w' b (fillL k) (fillL l)
  view : ∀ {O W b k l}, F O W b k l → Calls Try.prog 28 #[.pointer (some ⟨b, 0, none⟩)] W fun e w' => e = .returned (viewK k l) ∧ Below W.heap.size W w'
/-- No fleet at all. -/
def NoF : FleetIn := fun O _ _ _ _ => ∀ j, ¬ O j
theorem nof_keeps : Keeps NoF where
  lt := fun h j hj => absurd hj (h j)
  keep := fun h _ => h
/-- Two fleets behind the world w, and blocks X of the law's own, apart from each other. -/
structure Two (F G : FleetIn) (w W : World) (X : List Nat) (b : Nat) (k l : List Bool) (c : Nat) (k' l' : List Bool) : Prop where
  ex : ∃ O P : Nat → Prop, F O W b k l ∧ G P W c k' l' ∧ (∀ j, O j → ¬ P j) ∧ (∀ j, O j → w.heap.size ≤ j ∧ j ∉ X) ∧ (∀ j, P j → w.heap.size ≤ j ∧ j ∉ X)
  low : Below w.heap.size w W
  xlt : ∀ j ∈ X, j < W.heap.size
  xge : ∀ j ∈ X, w.heap.size ≤ j
/-- The law's own blocks are as they were. -/
def SameX (X : List Nat) (W W' : World) : Prop := ∀ j ∈ X, W'.heap[j]? = W.heap[j]?
section
variable {F G G' : FleetIn} {w W W' : World} {X : List Nat} {b c : Nat} {k l k' l' k2 l2 : List Bool}
/-- Nothing that was there turned. -/
theorem Two.keep (hF : Keeps F) (hG : Keeps G) (h : Two F G w W X b k l c k' l') (hb : Below W.heap.size W W') : Two F G w W' X b k l c k' l' ∧ SameX X W W' := by
  obtain ⟨O, P, h1, h2, h3, h4, h5⟩ := h.ex
  exact ⟨⟨⟨O, P, hF.keep h1 (fun j hj => hb.block j (hF.lt h1 j hj)), hG.keep h2 (fun j hj => hb.block j (hG.lt h2 j hj)), h3, h4, h5⟩, h.low.trans (hb.mono h.low.size), fun j hj => Nat.lt_of_lt_of_le (h.xlt j hj) hb.size, h.xge⟩, fun j hj => hb.block j (h.xlt j hj)⟩
/-- A new block of the law's own. -/
theorem Two.alloc (hF : Keeps F) (hG : Keeps G) (h : Two F G w W X b k l c k' l') (o : Obj) : Two F G w (W.alloc o) (W.heap.size :: X) b k l c k' l' := by
  obtain ⟨O, P, h1, h2, h3, h4, h5⟩ := h.ex
  have hb := below_alloc W o
  refine ⟨⟨O, P, hF.keep h1 (fun j hj => hb.block j (hF.lt h1 j hj)), hG.keep h2 (fun j hj => hb.block j (hG.lt h2 j hj)), h3, fun j hj => ⟨(h4 j hj).1, ?_⟩, fun j hj => ⟨(h5 j hj).1, ?_⟩⟩, h.low.trans (hb.mono h.low.size), ?_, ?_⟩
  · rw [List.mem_cons, not_or]
    exact ⟨fun e => by have := hF.lt h1 j hj; omega, (h4 j hj).2⟩
  · rw [List.mem_cons, not_or]
    exact ⟨fun e => by have := hG.lt h2 j hj; omega, (h5 j hj).2⟩
  · intro j hj
    rcases List.mem_cons.1 hj with e | e
    · rw [e, World.size_alloc]; omega
    · exact Nat.lt_of_lt_of_le (h.xlt j e) hb.size
  · intro j hj
    rcases List.mem_cons.1 hj with e | e
    · rw [e]; exact h.low.size
    · exact h.xge j e
/-- A block of the law's own is written. -/
theorem Two.set (hF : Keeps F) (hG : Keeps G) (h : Two F G w W X b k l c k' l') {A : Nat} (hA : A ∈ X) (i : Nat) (u : Value) : Two F G w (W.setCell ⟨A, i, none⟩ u) X b k l c k' l' := by
  obtain ⟨O, P, h1, h2, h3, h4, h5⟩ := h.ex
  exact ⟨⟨O, P, hF.keep h1 (fun j hj => Below.heap_setCell W ⟨A, i, none⟩ u j (fun e => (h4 j hj).2 (by rw [e]; exact hA))), hG.keep h2 (fun j hj => Below.heap_setCell W ⟨A, i, none⟩ u j (fun e => (h5 j hj).2 (by rw [e]; exact hA))), h3, h4, h5⟩, below_setNew h.low A i u (h.xge A hA), fun j hj => by simpa [World.setCell] using h.xlt j hj, h.xge⟩
/-- Blocks of the law's own that aren't wanted any more. -/
theorem Two.fewer {Y : List Nat} (h : Two F G w W X b k l c k' l') (hY : ∀ j ∈ Y, j ∈ X) : Two F G w W Y b k l c k' l' := by
  obtain ⟨O, P, h1, h2, h3, h4, h5⟩ := h.ex
  exact ⟨⟨O, P, h1, h2, h3, fun j hj => ⟨(h4 j hj).1, fun e => (h4 j hj).2 (hY j e)⟩, fun j hj => ⟨(h5 j hj).1, fun e => (h5 j hj).2 (hY j e)⟩⟩, h.low, fun j hj => h.xlt j (hY j hj), fun j hj => h.xge j (hY j hj)⟩
/-- The first one turned. -/
theorem Two.first (hG : Keeps G) (h : Two F G w W X b k l c k' l') {f : FuncId} {args : Array Value} {Pe : Ending → Prop} (hc : ∀ O, F O W b k l → Calls Try.prog f args W fun e w' => Pe e ∧ Turn F O W w' b k2 l2) : Calls Try.prog f args W fun e w' => Pe e ∧ Two F G w w' X b k2 l2 c k' l' ∧ SameX X W w' := by
  obtain ⟨O, P, h1, h2, h3, h4, h5⟩ := h.ex
  refine (hc O h1).mono fun e w' ⟨he, O', g1, g2, g3⟩ => ⟨he, ⟨⟨O', P, g1, hG.keep h2 (fun j hj => g3.block j (hG.lt h2 j hj) (fun ho => h3 j ho hj)), fun j hj hp => ?_, fun j hj => ?_, h5⟩, g3.below h.low (fun j hj => (h4 j hj).1) h.low.size, fun j hj => Nat.lt_of_lt_of_le (h.xlt j hj) g3.size, h.xge⟩, fun j hj => g3.block j (h.xlt j hj) (fun ho => (h4 j ho).2 hj)⟩
  · rcases g2 j hj with e | e
    · exact h3 j e hp
    · have := hG.lt h2 j hp; omega
  · rcases g2 j hj with e | e
    · exact h4 j e
    · exact ⟨Nat.le_trans h.low.size e, fun hx => by have := h.xlt j hx; omega⟩
/-- The second one turned. -/
theorem Two.second (hF : Keeps F) (h : Two F G w W X b k l c k' l') {f : FuncId} {args : Array Value} {Pe : Ending → Prop} (hc : ∀ O, G O W c k' l' → Calls Try.prog f args W fun e w' => Pe e ∧ Turn G' O W w' c k2 l2) : Calls Try.prog f args W fun e w' => Pe e ∧ Two F G' w w' X b k l c k2 l2 ∧ SameX X W w' := by
  obtain ⟨O, P, h1, h2, h3, h4, h5⟩ := h.ex
  refine (hc P h2).mono fun e w' ⟨he, P', g1, g2, g3⟩ => ⟨he, ⟨⟨O, P', hF.keep h1 (fun j hj => g3.block j (hF.lt h1 j hj) (fun hp => h3 j hj hp)), g1, fun j ho hj => ?_, h4, fun j hj => ?_⟩, g3.below h.low (fun j hj => (h5 j hj).1) h.low.size, fun j hj => Nat.lt_of_lt_of_le (h.xlt j hj) g3.size, h.xge⟩, fun j hj => g3.block j (h.xlt j hj) (fun hp => (h5 j hp).2 hj)⟩
  · rcases g2 j hj with e | e
    · exact h3 j ho e
    · have := hF.lt h1 j ho; omega
  · rcases g2 j hj with e | e
    · exact h5 j e
    · exact ⟨Nat.le_trans h.low.size e, fun hx => by have := h.xlt j hx; omega⟩
/-- What is read of the first one, of the second one. -/
theorem Two.look1 (hF : Keeps F) (hG : Keeps G) (h : Two F G w W X b k l c k' l') {f : FuncId} {args : Array Value} {Pe : Ending → Prop} (hc : ∀ O, F O W b k l → Calls Try.prog f args W fun e w' => Pe e ∧ Below W.heap.size W w') : Calls Try.prog f args W fun e w' => Pe e ∧ Two F G w w' X b k l c k' l' ∧ SameX X W w' := by
  obtain ⟨O, P, h1, _⟩ := h.ex
  exact (hc O h1).mono fun e w' ⟨he, hb⟩ => ⟨he, h.keep hF hG hb⟩
theorem Two.look2 (hF : Keeps F) (hG : Keeps G) (h : Two F G w W X b k l c k' l') {f : FuncId} {args : Array Value} {Pe : Ending → Prop} (hc : ∀ O, G O W c k' l' → Calls Try.prog f args W fun e w' => Pe e ∧ Below W.heap.size W w') : Calls Try.prog f args W fun e w' => Pe e ∧ Two F G w w' X b k l c k' l' ∧ SameX X W w' := by
  obtain ⟨O, P, _, h2, _⟩ := h.ex
  exact (hc P h2).mono fun e w' ⟨he, hb⟩ => ⟨he, h.keep hF hG hb⟩
/-- The package's calls on the first one. -/
theorem two_apply (hp : PkgF F) (hG : Keeps G) (p q : Int) (h : Two F G w W X b k l c k' l') : Calls Try.prog 39 #[.pointer (some ⟨b, 0, none⟩), .agg #[.int .i64 p, .int .i64 q]] W fun e w' => e = .returned (.tuple #[]) ∧ Two F G w w' X b (scaleL k p) (scaleL l q) c k' l' ∧ SameX X W w' := h.first hG fun _ h1 => hp.apply p q h1
theorem two_ready (hp : PkgF F) (hG : Keeps G) (s i : Int) (on : Bool) (h : Two F G w W X b k l c k' l') : Calls Try.prog 36 #[.pointer (some ⟨b, 0, none⟩), .int .i64 s, .int .i64 i, .bool on] W fun e w' => e = .returned (.bool (decide (isW (slotK s k l) i))) ∧ Two F G w w' X b (rdA k s i on) (rdB l s i on) c k' l' ∧ SameX X W w' := h.first hG fun _ h1 => hp.ready s i on h1
theorem two_fill (hp : PkgF F) (hG : Keeps G) (h : Two F G w W X b k l c k' l') : Calls Try.prog 26 #[.pointer (some ⟨b, 0, none⟩)] W fun e w' => e = .returned (.tuple #[]) ∧ Two F G w w' X b (fillL k) (fillL l) c k' l' ∧ SameX X W w' := h.first hG fun _ h1 => hp.fill h1
theorem two_view (hp : PkgF F) (hG : Keeps G) (h : Two F G w W X b k l c k' l') : Calls Try.prog 28 #[.pointer (some ⟨b, 0, none⟩)] W fun e w' => e = .returned (viewK k l) ∧ Two F G w w' X b k l c k' l' ∧ SameX X W w' := h.look1 hp.ks hG fun _ h1 => hp.view h1
/-- A fleet begins; a second one begins. -/
theorem two_new (hp : PkgF F) (w : World) : Calls Try.prog 22 #[] w fun e w' => ∃ b, e = .returned (.pointer (some ⟨b, 0, none⟩)) ∧ Two F NoF w w' [] b [] [] 0 [] [] :=
  (hp.new w).mono fun _ _ ⟨b, he, O, h1, h2, h3⟩ => ⟨b, he, ⟨O, fun _ => False, h1, fun _ h => h, fun _ _ h => h, fun j hj => ⟨h2 j hj, by simp⟩, fun _ h => h.elim⟩, h3, fun j hj => by simp at hj, fun j hj => by simp at hj⟩
theorem two_join (hF : Keeps F) (h : Two F NoF w W X b k l 0 [] []) {Oc : Nat → Prop} (h1 : G Oc W' c k' l') (h2 : ∀ j, Oc j → W.heap.size ≤ j) (h3 : Below W.heap.size W W') : Two F G w W' X b k l c k' l' := by
  obtain ⟨O, P, g1, _, _, g4, _⟩ := h.ex
  exact ⟨⟨O, Oc, hF.keep g1 (fun j hj => h3.block j (hF.lt g1 j hj)), h1, fun j ho hj => by have := hF.lt g1 j ho; have := h2 j hj; omega, g4, fun j hj => ⟨Nat.le_trans h.low.size (h2 j hj), fun hx => by have := h.xlt j hx; have := h2 j hj; omega⟩⟩, h.low.trans (h3.mono h.low.size), fun j hj => Nat.lt_of_lt_of_le (h.xlt j hj) h3.size, h.xge⟩
theorem two_new2 (hp : PkgF F) (h : Two F NoF w W X b k l 0 [] []) : Calls Try.prog 22 #[] W fun e w' => ∃ c, e = .returned (.pointer (some ⟨c, 0, none⟩)) ∧ Two F F w w' X b k l c [] [] :=
  (hp.new W).mono fun _ _ ⟨c, he, _, h1, h2, h3⟩ => ⟨c, he, two_join hp.ks h h1 h2 h3⟩
/-- The second one's calls, where both are the package's. -/
theorem two_swap (h : Two F G w W X b k l c k' l') : Two G F w W X c k' l' b k l := by
  obtain ⟨O, P, h1, h2, h3, h4, h5⟩ := h.ex
  exact ⟨⟨P, O, h2, h1, fun j hp ho => h3 j ho hp, h5, h4⟩, h.low, h.xlt, h.xge⟩
end
end Go.Proofs.Ytchaeidmjoelnaa
namespace Go.Proofs.Ytchaeidmjoelnaa
open Go.RowKit

theorem ie3p_size : ((Try.prog.info? 3).map (·.size)) = some 1 := by kernel_rfl
theorem ie43p_size : ((Try.prog.info? 79).map (·.size)) = some 1 := by kernel_rfl
theorem u28p : Try.prog.underlying 35 = some (.array 2 3) := by kernel_rfl
theorem u45p : Try.prog.underlying 81 = some (.array 2 79) := by kernel_rfl
theorem size_one {t : TypeId} (h : ((Try.prog.info? t).map (·.size)) = some 1) (w : World) : (sizeOf t).run Try.prog w = .ok 1 w := by
  cases hq : Try.prog.info? t with
  | none => rw [hq] at h; simp at h
  | some i =>
    have hs : i.size = 1 := by simpa [hq] using h
    simp [sizeOf, typeInfo, hq, hs]
theorem na3 (w : World) : (isAgg 3).run Try.prog w = .ok false w := by
  unfold isAgg
  rw [Sem.run_bind, run_underlying Try.underlying3 w]
  rfl
theorem na43 (w : World) : (isAgg 79).run Try.prog w = .ok false w := by
  unfold isAgg
  rw [Sem.run_bind, run_underlying Try.underlying79 w]
  rfl
/-- One of two. -/
theorem two_at {t e : TypeId} (hu : Try.prog.underlying t = some (.array 2 e)) (hs : ∀ w, (sizeOf e).run Try.prog w = .ok 1 w) (ha : ∀ w, (isAgg e).run Try.prog w = .ok false w) (x y : Value) (w : World) : (Instr.index t (.agg #[x, y]) (.int .i64 0)).run Try.prog w = .ok x w ∧ (Instr.index t (.agg #[x, y]) (.int .i64 1)).run Try.prog w = .ok y w := by
  constructor <;> simp [Instr.index, run_underlying hu, asIntOf, hs w, ha w, part]
/-- A fleet of the package: block b, the Sets a and c. -/
structure Fp (O : Nat → Prop) (W : World) (b a c : Nat) (k l : List Bool) : Prop where
  row : W.heap[b]? = some (.cells #[.pointer (some ⟨a, 0, none⟩), .pointer (some ⟨c, 0, none⟩)] 83 (0, 0))
  ra : RsP W a k
  rc : RsP W c l
  ne : a ≠ c
  ob : O b
  oa : O a
  oc : O c
  lt : ∀ j, O j → j < W.heap.size
def FlP : FleetIn := fun O W b k l => ∃ a c, Fp O W b a c k l
section
variable {O : Nat → Prop} {W W' : World} {b a c : Nat} {k l k' l' : List Bool}
theorem Fp.keep (h : Fp O W b a c k l) (hk : ∀ j, O j → W'.heap[j]? = W.heap[j]?) : Fp O W' b a c k l where
  row := (hk b h.ob).trans h.row
  ra := h.ra.keep (hk a h.oa)
  rc := h.rc.keep (hk c h.oc)
  ne := h.ne
  ob := h.ob
  oa := h.oa
  oc := h.oc
  lt := fun j hj => by
    rcases Nat.lt_or_ge j W'.heap.size with h2 | h2
    · exact h2
    · have h3 := hk j hj
      rw [Array.getElem?_eq_none h2, Array.getElem?_eq_getElem (h.lt j hj)] at h3
      cases h3
theorem Fp.below (h : Fp O W b a c k l) (hb : Below W.heap.size W W') : Fp O W' b a c k l := h.keep fun j hj => hb.block j (h.lt j hj)
theorem Fp.c0 (h : Fp O W b a c k l) : W.cell? ⟨b, 0, none⟩ = some (.pointer (some ⟨a, 0, none⟩)) := by rw [cell_of_row W b 0 _ _ _ h.row]; rfl
theorem Fp.c1 (h : Fp O W b a c k l) : W.cell? ⟨b, 1, none⟩ = some (.pointer (some ⟨c, 0, none⟩)) := by rw [cell_of_row W b 1 _ _ _ h.row]; rfl
/-- One of its Sets turned. -/
theorem Fp.turnA (h : Fp O W b a c k l) (hr : RsP W' a k') (hb : But1 a W W') : Fp O W' b a c k' l where
  row := (hb.block b (h.lt b h.ob) (by obtain ⟨cu, h2, _⟩ := h.ra.blk; exact ne_type h.row h2 (by decide))).trans h.row
  ra := hr
  rc := h.rc.keep (hb.block c (h.lt c h.oc) (Ne.symm h.ne))
  ne := h.ne
  ob := h.ob
  oa := h.oa
  oc := h.oc
  lt := fun j hj => Nat.lt_of_lt_of_le (h.lt j hj) hb.size
theorem Fp.turnB (h : Fp O W b a c k l) (hr : RsP W' c l') (hb : But1 c W W') : Fp O W' b a c k l' where
  row := (hb.block b (h.lt b h.ob) (by obtain ⟨cu, h2, _⟩ := h.rc.blk; exact ne_type h.row h2 (by decide))).trans h.row
  ra := h.ra.keep (hb.block a (h.lt a h.oa) h.ne)
  rc := hr
  ne := h.ne
  ob := h.ob
  oa := h.oa
  oc := h.oc
  lt := fun j hj => Nat.lt_of_lt_of_le (h.lt j hj) hb.size
theorem flp_keeps : Keeps FlP where
  lt := fun ⟨_, _, h⟩ => h.lt
  keep := fun ⟨a, c, h⟩ hk => ⟨a, c, h.keep hk⟩
set_option maxRecDepth 100000 in
set_option maxHeartbeats 4000000 in
theorem pnew2_any (w : World) : Calls Try.prog 22 #[] w fun e w' => ∃ b, e = .returned (.pointer (some ⟨b, 0, none⟩)) ∧ NewF FlP w w' b := by
  go_enter Try.func22, Try.ntmps22
  go_wp2_with fail
  refine (pnew_any w).mono ?_
  rintro e w1 ⟨a, ha, rfl, r1, b1⟩
  have H1 := Lib.hid (And.intro ha (And.intro r1 b1))
  clear ha r1 b1
  go_wp2_with fail
  refine (pnew_any w1).mono ?_
  rintro e w2 ⟨c, hc, rfl, r2, b2⟩
  have H2 := Lib.hid (And.intro hc (And.intro r2 b2))
  clear hc r2 b2
  go_wp2
  go_ret
  obtain ⟨ha, r1, b1⟩ := H1.out
  obtain ⟨hc, r2, b2⟩ := H2.out
  have hal : a < w1.heap.size := by obtain ⟨cu, h2, _⟩ := r1.blk; exact lt_of_block h2
  have hcl : c < w2.heap.size := by obtain ⟨cu, h2, _⟩ := r2.blk; exact lt_of_block h2
  have b3 := below_alloc w2 (.cells #[.pointer (some ⟨a, 0, none⟩), .pointer (some ⟨c, 0, none⟩)] 83)
  refine ⟨w2.heap.size, rfl, fun j => w.heap.size ≤ j ∧ j < w2.heap.size + 1, ⟨a, c, ?_⟩, fun j h => h.1, ?_⟩
  · exact {
      row := heap_alloc_new w2 _
      ra := (r1.keep (b2.block a hal)).keep (b3.block a (Nat.lt_of_lt_of_le hal b2.size))
      rc := r2.keep (b3.block c hcl)
      ne := by omega
      ob := ⟨Nat.le_trans b1.size b2.size, by omega⟩
      oa := ⟨ha, by have := b2.size; omega⟩
      oc := ⟨Nat.le_trans b1.size hc, by omega⟩
      lt := fun j hj => by rw [World.size_alloc]; exact hj.2 }
  · exact (b1.trans (b2.mono b1.size)).trans (b3.mono (Nat.le_trans b1.size b2.size))
set_option maxRecDepth 100000 in
set_option maxHeartbeats 4000000 in
theorem papply_any (p q : Int) (h : Fp O W b a c k l) : Calls Try.prog 39 #[.pointer (some ⟨b, 0, none⟩), .agg #[.int .i64 p, .int .i64 q]] W fun e w' => e = .returned (.tuple #[]) ∧ Turn FlP O W w' b (scaleL k p) (scaleL l q) := by
  have hb0 := below_alloc W (.cells #[.int .i64 p, .int .i64 q] 35)
  have HF := Lib.hid (And.intro (h.below hb0) (ButO.of_below (O := O) hb0))
  clear h hb0
  go_enter Try.func39, Try.ntmps39
  go_wp2
  go_loopg [7] 2 (fun gg iv wr => ∃ i : Nat, Hid (gg = 2 - i) ∧ i ≤ 2 ∧ iv = .int .i64 (i : Int) ∧ Hid (Fp O wr b a c (if 0 < i then scaleL k p else k) (if 1 < i then scaleL l q else l) ∧ ButO O W wr))
  case atStart => exact ⟨0, Lib.hid rfl, Nat.zero_le _, rfl, Lib.hid HF.out⟩
  case round =>
    obtain ⟨i, HG, hi, rfl, HI⟩ := hrel
    obtain rfl | rfl | rfl : i = 0 ∨ i = 1 ∨ i = 2 := by omega
    · have k0 := HI.out.1.c0
      have x0 := fun w => (two_at u28p (size_one ie3p_size) na3 (.int .i64 p) (.int .i64 q) w).1
      clear hi
      go_wp2_with fail
      refine (pscale_any p HI.out.1.ra).mono ?_
      rintro e w2 ⟨rfl, r2, b2⟩
      have H2 := Lib.hid (And.intro (HI.out.1.turnA r2 b2) (HI.out.2.trans (ButO.of_one b2 HI.out.1.oa) (fun j hj => .inl hj)))
      clear r2 b2 k0
      go_wp2
      go_roundg 1
      case measure => have := HG.out; omega
      case rel => exact ⟨1, Lib.hid rfl, by omega, rfl, Lib.hid H2.out⟩
    · have k1 := HI.out.1.c1
      have x0 := fun w => (two_at u28p (size_one ie3p_size) na3 (.int .i64 p) (.int .i64 q) w).2
      clear hi
      go_wp2_with fail
      refine (pscale_any q HI.out.1.rc).mono ?_
      rintro e w2 ⟨rfl, r2, b2⟩
      have H2 := Lib.hid (And.intro (HI.out.1.turnB r2 b2) (HI.out.2.trans (ButO.of_one b2 HI.out.1.oc) (fun j hj => .inl hj)))
      clear r2 b2 k1
      go_wp2
      go_roundg 0
      case measure => have := HG.out; omega
      case rel => exact ⟨2, Lib.hid rfl, by omega, rfl, Lib.hid H2.out⟩
    · clear hi
      go_wp2
      go_end0
      exact ⟨rfl, O, ⟨a, c, HI.out.1⟩, fun j h => .inl h, HI.out.2⟩
set_option maxRecDepth 100000 in
set_option maxHeartbeats 4000000 in
theorem pslot_any (s : Int) (w : World) : Calls Try.prog 51 #[.int .i64 s] w fun e w' => e = .returned (.bool (decide (s = 0 ∨ s = 1))) ∧ w = w' := by
  by_cases h0 : s = 0
  case pos =>
    subst h0
    go_enter Try.func51, Try.ntmps51
    go_wp2
    go_ret
    exact ⟨rfl, rfl⟩
  by_cases h1 : s = 1
  case pos =>
    subst h1
    go_enter Try.func51, Try.ntmps51
    go_wp2
    go_ret
    exact ⟨rfl, rfl⟩
  have e0 : (s == 0) = false := beq_eq_false_iff_ne.2 h0
  have e1 : (s == 1) = false := beq_eq_false_iff_ne.2 h1
  have HS : Hid (decide (s = 0 ∨ s = 1) = false) := Lib.hid (decide_eq_false (fun h => h.elim h0 h1))
  clear h0 h1
  go_enter Try.func51, Try.ntmps51
  go_wp2
  go_ret
  exact ⟨by rw [HS.out]; rfl, rfl⟩
set_option maxRecDepth 100000 in
set_option maxHeartbeats 4000000 in
theorem pready2_any (s i : Int) (on : Bool) (h : Fp O W b a c k l) : Calls Try.prog 36 #[.pointer (some ⟨b, 0, none⟩), .int .i64 s, .int .i64 i, .bool on] W fun e w' => e = .returned (.bool (decide (isW (slotK s k l) i))) ∧ Turn FlP O W w' b (rdA k s i on) (rdB l s i on) := by
  have HF := Lib.hid h
  have k0 := h.c0
  have k1 := h.c1
  clear h
  by_cases h0 : s = 0
  case pos =>
    subst h0
    go_enter Try.func36, Try.ntmps36
    go_wp2_with fail
    refine (pslot_any 0 W).mono ?_
    rintro e w' ⟨rfl, rfl⟩
    go_wp2_with fail
    refine (pready_any i on HF.out.ra).mono ?_
    rintro e w2 ⟨rfl, r2, b2⟩
    have H2 := Lib.hid (And.intro (HF.out.turnA r2 b2) (ButO.of_one b2 HF.out.oa))
    clear r2 b2 k0 k1
    go_wp2
    go_ret
    exact ⟨rfl, O, ⟨a, c, H2.out.1⟩, fun j h => .inl h, H2.out.2⟩
  by_cases h1 : s = 1
  case pos =>
    subst h1
    go_enter Try.func36, Try.ntmps36
    go_wp2_with fail
    refine (pslot_any 1 W).mono ?_
    rintro e w' ⟨rfl, rfl⟩
    go_wp2_with fail
    refine (pready_any i on HF.out.rc).mono ?_
    rintro e w2 ⟨rfl, r2, b2⟩
    have H2 := Lib.hid (And.intro (HF.out.turnB r2 b2) (ButO.of_one b2 HF.out.oc))
    clear r2 b2 k0 k1
    go_wp2
    go_ret
    exact ⟨rfl, O, ⟨a, c, H2.out.1⟩, fun j h => .inl h, H2.out.2⟩
  have HS : Hid (decide (s = 0 ∨ s = 1) = false) := Lib.hid (decide_eq_false (fun h => h.elim h0 h1))
  have HN := Lib.hid (And.intro h0 h1)
  clear h0 h1
  go_enter Try.func36, Try.ntmps36
  go_wp2_with fail
  refine (pslot_any s W).mono ?_
  rw [HS.out]
  rintro e w' ⟨rfl, rfl⟩
  go_wp2
  go_ret
  refine ⟨?_, O, ⟨a, c, ?_⟩, fun j h => .inl h, ButO.refl _ _⟩
  · unfold slotK
    rw [if_neg HN.out.1, if_neg HN.out.2, decide_eq_false (isW_nil i)]
    rfl
  · unfold rdA rdB
    rw [if_neg HN.out.1, if_neg HN.out.2]
    exact HF.out
/-- Which of a fleet's slots have been gone through, when i of them have. -/
def upto (i : Nat) (x y : Nat) : Int := if i ≤ x then 0 else (y : Int)
set_option maxRecDepth 100000 in
set_option maxHeartbeats 4000000 in
theorem pview_any (h : Fp O W b a c k l) : Calls Try.prog 28 #[.pointer (some ⟨b, 0, none⟩)] W fun e w' => e = .returned (viewK k l) ∧ Below W.heap.size W w' := by
  have HF := Lib.hid h
  clear h
  go_enter Try.func28, Try.ntmps28
  go_upto_region 2 with (fail)
  obtain ⟨A, hA⟩ : ∃ A, A = W.heap.size := ⟨_, rfl⟩
  obtain ⟨B, hB⟩ : ∃ B, B = W.heap.size + 1 := ⟨_, rfl⟩
  rw [← hB, ← hA]
  refine name_w (fun X => Fp O X b a c k l ∧ Row4 X A 0 0 0 0 ∧ Row4 X B 0 0 0 0 ∧ Below W.heap.size W X) ?_ ?_
  · have b1 := below_alloc W (.cells #[.int .i64 0, .int .i64 0, .int .i64 0, .int .i64 0] 42)
    have b2 := b1.alloc b1.size (.cells #[.int .i64 0, .int .i64 0, .int .i64 0, .int .i64 0] 42)
    have n1 := heap_alloc2_old W (.cells #[.int .i64 0, .int .i64 0, .int .i64 0, .int .i64 0] 42) (.cells #[.int .i64 0, .int .i64 0, .int .i64 0, .int .i64 0] 42)
    have n2 := heap_alloc2_new W (.cells #[.int .i64 0, .int .i64 0, .int .i64 0, .int .i64 0] 42) (.cells #[.int .i64 0, .int .i64 0, .int .i64 0, .int .i64 0] 42)
    exact ⟨HF.out.below b2, by rw [hA]; exact n1, by rw [hB]; exact n2, b2⟩
  rintro X ⟨h1, h2, h3, h4⟩
  have HAB := Lib.hid (And.intro hA hB)
  clear hA hB
  have k0 := h1.c0
  have k1 := h1.c1
  obtain ⟨ck, hck⟩ : ∃ x, x = cntL k := ⟨_, rfl⟩
  obtain ⟨cl, hcl⟩ : ∃ x, x = cntL l := ⟨_, rfl⟩
  have HV := Lib.hid (And.intro hck hcl)
  have HX := Lib.hid (And.intro h1 (And.intro h2 (And.intro h3 h4)))
  clear h1 h2 h3 h4 hck hcl
  go_wp2
  clear k0 k1
  go_loopg [10] 2 (fun gg iv wr => ∃ i : Nat, Hid (gg = 2 - i) ∧ i ≤ 2 ∧ iv = .int .i64 (i : Int) ∧ Hid (Fp O wr b a c k l ∧ Row4 wr A 0 0 0 0 ∧ Row4 wr B (upto i 0 k.length) (upto i 1 l.length) (upto i 0 ck) (upto i 1 cl) ∧ Below W.heap.size W wr))
  case atStart => exact ⟨0, Lib.hid rfl, Nat.zero_le _, rfl, Lib.hid HX.out⟩
  case round =>
    obtain ⟨i, HG, hi, rfl, HI⟩ := hrel
    obtain rfl | rfl | rfl : i = 0 ∨ i = 1 ∨ i = 2 := by omega
    · clear hi
      have x0 := fun w => (two_at u45p (size_one ie43p_size) na43 (.pointer (some ⟨a, 0, none⟩)) (.pointer (some ⟨c, 0, none⟩)) w).1
      go_wp2_with fail
      refine (pwant_any HI.out.1.ra).mono ?_
      rintro e w2 ⟨rfl, rfl⟩
      have z0 := HI.out.2.2.1.c0
      have q0 := HI.out.2.2.1.fr 0
      go_wp2_with fail
      obtain ⟨Y, hY⟩ : ∃ Y, Y = wr.setCell ⟨B, 0, none⟩ (.int .i64 k.length) := ⟨_, rfl⟩
      rw [← hY]
      have HY : Hid (Fp O Y b a c k l ∧ Row4 Y A 0 0 0 0 ∧ Row4 Y B k.length 0 0 0 ∧ Below W.heap.size W Y) := Lib.hid (by
        have hbl := below_setNew HI.out.2.2.2 B 0 (.int .i64 k.length) (by rw [HAB.out.2]; omega)
        have hne : A ≠ B := by rw [HAB.out.1, HAB.out.2]; omega
        rw [hY]
        exact ⟨HF.out.below hbl, (Below.heap_setCell _ ⟨B, 0, none⟩ _ A hne).trans HI.out.2.1, heap_setCell_same _ B 0 _ 42 _ HI.out.2.2.1, hbl⟩)
      clear hY z0 q0 HI
      refine (pcount_any HY.out.1.ra).mono ?_
      rw [← HV.out.1]
      rintro e w2 ⟨rfl, rfl⟩
      have z2 := HY.out.2.2.1.c2
      have q2 := HY.out.2.2.1.fr 2
      have HZ : Hid (Fp O (Y.setCell ⟨B, 2, none⟩ (.int .i64 ck)) b a c k l ∧ Row4 (Y.setCell ⟨B, 2, none⟩ (.int .i64 ck)) A 0 0 0 0 ∧ Row4 (Y.setCell ⟨B, 2, none⟩ (.int .i64 ck)) B k.length 0 ck 0 ∧ Below W.heap.size W (Y.setCell ⟨B, 2, none⟩ (.int .i64 ck))) := Lib.hid (by
        have hbl := below_setNew HY.out.2.2.2 B 2 (.int .i64 ck) (by rw [HAB.out.2]; omega)
        have hne : A ≠ B := by rw [HAB.out.1, HAB.out.2]; omega
        exact ⟨HF.out.below hbl, (Below.heap_setCell _ ⟨B, 2, none⟩ _ A hne).trans HY.out.2.1, heap_setCell_same _ B 2 _ 42 _ HY.out.2.2.1, hbl⟩)
      go_wp2
      go_roundg 1
      case measure => have := HG.out; omega
      case rel => exact ⟨1, Lib.hid rfl, by omega, rfl, Lib.hid HZ.out⟩
    · clear hi
      have x0 := fun w => (two_at u45p (size_one ie43p_size) na43 (.pointer (some ⟨a, 0, none⟩)) (.pointer (some ⟨c, 0, none⟩)) w).2
      go_wp2_with fail
      refine (pwant_any HI.out.1.rc).mono ?_
      rintro e w2 ⟨rfl, rfl⟩
      have z1 := HI.out.2.2.1.c1
      have q1 := HI.out.2.2.1.fr 1
      go_wp2_with fail
      obtain ⟨Y, hY⟩ : ∃ Y, Y = wr.setCell ⟨B, 1, none⟩ (.int .i64 l.length) := ⟨_, rfl⟩
      rw [← hY]
      have HY : Hid (Fp O Y b a c k l ∧ Row4 Y A 0 0 0 0 ∧ Row4 Y B k.length l.length ck 0 ∧ Below W.heap.size W Y) := Lib.hid (by
        have hbl := below_setNew HI.out.2.2.2 B 1 (.int .i64 l.length) (by rw [HAB.out.2]; omega)
        have hne : A ≠ B := by rw [HAB.out.1, HAB.out.2]; omega
        rw [hY]
        exact ⟨HF.out.below hbl, (Below.heap_setCell _ ⟨B, 1, none⟩ _ A hne).trans HI.out.2.1, heap_setCell_same _ B 1 _ 42 _ HI.out.2.2.1, hbl⟩)
      clear hY z1 q1 HI
      refine (pcount_any HY.out.1.rc).mono ?_
      rw [← HV.out.2]
      rintro e w2 ⟨rfl, rfl⟩
      have z3 := HY.out.2.2.1.c3
      have q3 := HY.out.2.2.1.fr 3
      have HZ : Hid (Fp O (Y.setCell ⟨B, 3, none⟩ (.int .i64 cl)) b a c k l ∧ Row4 (Y.setCell ⟨B, 3, none⟩ (.int .i64 cl)) A 0 0 0 0 ∧ Row4 (Y.setCell ⟨B, 3, none⟩ (.int .i64 cl)) B k.length l.length ck cl ∧ Below W.heap.size W (Y.setCell ⟨B, 3, none⟩ (.int .i64 cl))) := Lib.hid (by
        have hbl := below_setNew HY.out.2.2.2 B 3 (.int .i64 cl) (by rw [HAB.out.2]; omega)
        have hne : A ≠ B := by rw [HAB.out.1, HAB.out.2]; omega
        exact ⟨HF.out.below hbl, (Below.heap_setCell _ ⟨B, 3, none⟩ _ A hne).trans HY.out.2.1, heap_setCell_same _ B 3 _ 42 _ HY.out.2.2.1, hbl⟩)
      go_wp2
      go_roundg 0
      case measure => have := HG.out; omega
      case rel => exact ⟨2, Lib.hid rfl, by omega, rfl, Lib.hid HZ.out⟩
    · clear hi
      have HI2 : Hid (Row4 wr A 0 0 0 0 ∧ Row4 wr B k.length l.length ck cl ∧ Below W.heap.size W wr) := Lib.hid HI.out.2
      clear HI
      have m0 := HI2.out.2.1.c0
      have m1 := HI2.out.2.1.c1
      have m2 := HI2.out.2.1.c2
      have m3 := HI2.out.2.1.c3
      have z0 := HI2.out.1.c0
      have z1 := HI2.out.1.c1
      have z2 := HI2.out.1.c2
      have z3 := HI2.out.1.c3
      have q0 := HI2.out.1.fr 0
      have q1 := HI2.out.1.fr 1
      have q2 := HI2.out.1.fr 2
      have q3 := HI2.out.1.fr 3
      have HZ := Lib.hid ((HI2.out.1.set01 (k.length : Int) (l.length : Int)).set23 (ck : Int) (cl : Int))
      have HW : Hid (Below W.heap.size W ((((wr.setCell ⟨A, 0, none⟩ (.int .i64 k.length)).setCell ⟨A, 1, none⟩ (.int .i64 l.length)).setCell ⟨A, 2, none⟩ (.int .i64 ck)).setCell ⟨A, 3, none⟩ (.int .i64 cl))) := Lib.hid (by
        have ha : W.heap.size ≤ A := by rw [HAB.out.1]; exact Nat.le_refl _
        exact below_setNew (below_setNew (below_setNew (below_setNew HI2.out.2.2 A 0 _ ha) A 1 _ ha) A 2 _ ha) A 3 _ ha)
      go_wp2
      refine bodyPost_ret (results_cell_row rfl _ _ A 42 #[.int .i64 k.length, .int .i64 l.length, .int .i64 ck, .int .i64 cl] (0, 0) _ rfl HZ.out u37 rfl i37) rfl ?_
      exact ⟨by rw [HV.out.1, HV.out.2]; rfl, HW.out⟩
/-- The Sets' lists, when i of them have been filled. -/
def fillI (i x : Nat) (k : List Bool) : List Bool := if i ≤ x then k else fillL k
set_option maxRecDepth 100000 in
set_option maxHeartbeats 4000000 in
theorem pfill_any (h : Fp O W b a c k l) : Calls Try.prog 26 #[.pointer (some ⟨b, 0, none⟩)] W fun e w' => e = .returned (.tuple #[]) ∧ Turn FlP O W w' b (fillL k) (fillL l) := by
  have HF := Lib.hid h
  have k0 := h.c0
  have k1 := h.c1
  clear h
  go_enter Try.func26, Try.ntmps26
  go_wp2
  clear k0 k1
  go_loopg [9] 2 (fun gg iv wr => ∃ i : Nat, Hid (gg = 2 - i) ∧ i ≤ 2 ∧ iv = .int .i64 (i : Int) ∧ Hid (Fp O wr b a c (fillI i 0 k) (fillI i 1 l) ∧ ButO O W wr))
  case atStart => exact ⟨0, Lib.hid rfl, Nat.zero_le _, rfl, Lib.hid ⟨HF.out, ButO.refl _ _⟩⟩
  case round =>
    obtain ⟨i, HG, hi, rfl, HI⟩ := hrel
    obtain rfl | rfl | rfl : i = 0 ∨ i = 1 ∨ i = 2 := by omega
    · clear hi
      have x0 := fun w => (two_at u45p (size_one ie43p_size) na43 (.pointer (some ⟨a, 0, none⟩)) (.pointer (some ⟨c, 0, none⟩)) w).1
      go_wp2_with fail
      refine (pwant_any HI.out.1.ra).mono ?_
      rintro e w2 ⟨rfl, rfl⟩
      have HJ : Hid (Fp O wr b a c k l ∧ ButO O W wr) := Lib.hid HI.out
      clear HI
      have HL : Hid (fillI 0 0 k = k) := Lib.hid rfl
      rw [HL.out]
      go_wp2
      go_loopg [14] 32 (fun gg jv wj => ∃ j : Nat, Hid (gg = 32 - j) ∧ j ≤ k.length ∧ jv = .int .i64 (j : Int) ∧ Hid (Fp O wj b a c (fillTo k j) l ∧ ButO O W wj))
      case atStart => exact ⟨0, Lib.hid rfl, Nat.zero_le _, rfl, Lib.hid HJ.out⟩
      case round =>
        obtain ⟨j, HGj, hj, rfl, HK⟩ := hrel
        have hk32 := HJ.out.1.ra.le
        by_cases hl : j < k.length
        case neg =>
          have e4 : decide ((j : Int) < (k.length : Int)) = false := decide_eq_false (by omega)
          have e5 : decide (j < k.length) = false := decide_eq_false hl
          have HE : Hid (Fp O wr b a c (fillL k) l ∧ ButO O W wr) := Lib.hid (by rw [← fillTo_all k j (by omega)]; exact HK.out)
          clear hl hj hk32 HK
          go_wp2
          go_roundg 1
          case measure => have := HG.out; omega
          case rel => exact ⟨1, Lib.hid rfl, by omega, rfl, Lib.hid HE.out⟩
        have e4 : decide ((j : Int) < (k.length : Int)) = true := decide_eq_true (by omega)
        have e5 : decide (j < k.length) = true := decide_eq_true hl
        have HLT := Lib.hid (And.intro hl hk32)
        have h3 : j < 32 := by omega
        clear hl hj hk32
        go_wp2_with fail
        refine (pready_any (j : Int) true HK.out.1.ra).mono ?_
        rintro e w3 ⟨rfl, r3, b3⟩
        have H3 := Lib.hid (And.intro (HK.out.1.turnA r3 b3) (HK.out.2.trans (ButO.of_one b3 HK.out.1.oa) (fun j hj => .inl hj)))
        clear r3 b3
        go_wp2
        go_roundg (32 - (j + 1))
        case measure => have := HGj.out; have := HLT.out; omega
        case rel =>
          exact ⟨j + 1, Lib.hid rfl, HLT.out.1, by go_num, Lib.hid H3.out⟩
    · clear hi
      have x0 := fun w => (two_at u45p (size_one ie43p_size) na43 (.pointer (some ⟨a, 0, none⟩)) (.pointer (some ⟨c, 0, none⟩)) w).2
      go_wp2_with fail
      refine (pwant_any HI.out.1.rc).mono ?_
      rintro e w2 ⟨rfl, rfl⟩
      have HJ : Hid (Fp O wr b a c (fillL k) l ∧ ButO O W wr) := Lib.hid HI.out
      clear HI
      have HL : Hid (fillI 1 1 l = l) := Lib.hid rfl
      rw [HL.out]
      go_wp2
      go_loopg [14] 32 (fun gg jv wj => ∃ j : Nat, Hid (gg = 32 - j) ∧ j ≤ l.length ∧ jv = .int .i64 (j : Int) ∧ Hid (Fp O wj b a c (fillL k) (fillTo l j) ∧ ButO O W wj))
      case atStart => exact ⟨0, Lib.hid rfl, Nat.zero_le _, rfl, Lib.hid HJ.out⟩
      case round =>
        obtain ⟨j, HGj, hj, rfl, HK⟩ := hrel
        have hk32 := HJ.out.1.rc.le
        by_cases hl : j < l.length
        case neg =>
          have e4 : decide ((j : Int) < (l.length : Int)) = false := decide_eq_false (by omega)
          have e5 : decide (j < l.length) = false := decide_eq_false hl
          have HE : Hid (Fp O wr b a c (fillL k) (fillL l) ∧ ButO O W wr) := Lib.hid (by rw [← fillTo_all l j (by omega)]; exact HK.out)
          clear hl hj hk32 HK
          go_wp2
          go_roundg 0
          case measure => have := HG.out; omega
          case rel => exact ⟨2, Lib.hid rfl, by omega, rfl, Lib.hid HE.out⟩
        have e4 : decide ((j : Int) < (l.length : Int)) = true := decide_eq_true (by omega)
        have e5 : decide (j < l.length) = true := decide_eq_true hl
        have HLT := Lib.hid (And.intro hl hk32)
        have h3 : j < 32 := by omega
        clear hl hj hk32
        go_wp2_with fail
        refine (pready_any (j : Int) true HK.out.1.rc).mono ?_
        rintro e w3 ⟨rfl, r3, b3⟩
        have H3 := Lib.hid (And.intro (HK.out.1.turnB r3 b3) (HK.out.2.trans (ButO.of_one b3 HK.out.1.oc) (fun j hj => .inl hj)))
        clear r3 b3
        go_wp2
        go_roundg (32 - (j + 1))
        case measure => have := HGj.out; have := HLT.out; omega
        case rel =>
          exact ⟨j + 1, Lib.hid rfl, HLT.out.1, by go_num, Lib.hid H3.out⟩
    · clear hi
      go_wp2
      go_end0
      exact ⟨rfl, O, ⟨a, c, HI.out.1⟩, fun j h => .inl h, HI.out.2⟩
end
theorem pkgf_is : PkgF FlP where
  ks := flp_keeps
  le := fun ⟨_, _, h⟩ => ⟨h.ra.le, h.rc.le⟩
  new := pnew2_any
  apply := fun p q ⟨_, _, h⟩ => papply_any p q h
  ready := fun s i on ⟨_, _, h⟩ => pready2_any s i on h
  fill := fun ⟨_, _, h⟩ => pfill_any h
  view := fun ⟨_, _, h⟩ => pview_any h
end Go.Proofs.Ytchaeidmjoelnaa
