/-
  A thing in memory, in blocks of its own (ObIn); what a call leaves of it (TurnO); one thing behind a world, and rows of the law's own beside it (One).
  Package model's calls as a bundle (PkgMd) over the plain model; bounds behind n calls of the router (MdN); acts.
  The laws' own do and fill, over a model of the package.
-/
import Derived.Test.YtchaeidmjoelnaaFleM
import Derived.Test.YtchaeidmjoelnaaStMem
import Derived.Test.YtchaeidmjoelnaaMdA
import Derived.Test.YtchaeidmjoelnaaMayE
import Derived.Test.YtchaeidmjoelnaaRouA
import Derived.Deep.LoopGhost
namespace Go.Proofs.Ytchaeidmjoelnaa
open Go.RowKit

/-- How a thing lies in memory: its blocks, the world, its handle's block, what it is. -/
abbrev ObIn (α : Type) := (Nat → Prop) → World → Nat → α → Prop
structure KeepsO {α : Type} (G : ObIn α) : Prop where
  lt : ∀ {O W b a}, G O W b a → ∀ j, O j → j < W.heap.size
  keep : ∀ {O W W' b a}, G O W b a → (∀ j, O j → W'.heap[j]? = W.heap[j]?) → G O W' b a
/-- What a call leaves: the thing, in blocks that it had or that are new; nothing else turned. -/
def TurnO {α : Type} (F : ObIn α) (O : Nat → Prop) (W W' : World) (b : Nat) (a : α) : Prop :=
  ∃ O' : Nat → Prop, F O' W' b a ∧ (∀ j, O' j → O j ∨ W.heap.size ≤ j) ∧ ButO O W W'
def NewO {α : Type} (F : ObIn α) (W W' : World) (b : Nat) (a : α) : Prop :=
  ∃ O : Nat → Prop, F O W' b a ∧ (∀ j, O j → W.heap.size ≤ j) ∧ Below W.heap.size W W'
abbrev Row := Nat × Array Value × TypeId
/-- One thing behind the world w, and rows of the law's own. -/
structure One {α : Type} (F : ObIn α) (w W : World) (L : List Row) (b : Nat) (a : α) : Prop where
  ex : ∃ O : Nat → Prop, F O W b a ∧ (∀ j, O j → w.heap.size ≤ j) ∧ ∀ r ∈ L, ¬ O r.1
  low : Below w.heap.size w W
  rows : ∀ r ∈ L, Rw W r.1 r.2.1 r.2.2
  ge : ∀ r ∈ L, w.heap.size ≤ r.1
  nd : (L.map (·.1)).Nodup
section
variable {α : Type} {F : ObIn α} {w W W' : World} {L : List Row} {b : Nat} {a a' : α}
theorem below_one (W : World) : Below W.heap.size W W.drew := ⟨rfl, rfl, rfl, Nat.le_refl _, fun _ _ => rfl⟩
theorem One.keep (hF : KeepsO F) (h : One F w W L b a) (hb : Below W.heap.size W W') : One F w W' L b a := by
  obtain ⟨O, h1, h2, h3⟩ := h.ex
  exact ⟨⟨O, hF.keep h1 (fun j hj => hb.block j (hF.lt h1 j hj)), h2, h3⟩, h.low.trans (hb.mono h.low.size), fun r hr => (h.rows r hr).under hb (h.rows r hr).lt, h.ge, h.nd⟩
theorem One.drew (hF : KeepsO F) (h : One F w W L b a) : One F w W.drew L b a := h.keep hF (below_one W)
/-- A new row of the law's own. -/
theorem One.alloc (hF : KeepsO F) (h : One F w W L b a) (cs : Array Value) (t : TypeId) : One F w (W.alloc (.cells cs t)) ((W.heap.size, cs, t) :: L) b a := by
  have hb : Below W.heap.size W (W.alloc (.cells cs t)) := (Below.refl _ _).alloc (Nat.le_refl _) _
  have hk := h.keep hF hb
  obtain ⟨O, h1, _, h3⟩ := h.ex
  obtain ⟨O', g1, g2, g3⟩ : ∃ O : Nat → Prop, F O (W.alloc (.cells cs t)) b a ∧ (∀ j, O j → w.heap.size ≤ j) ∧ (∀ r ∈ (W.heap.size, cs, t) :: L, ¬ O r.1) := by
    obtain ⟨O, h1, h2, h3⟩ := h.ex
    refine ⟨O, hF.keep h1 (fun j hj => hb.block j (hF.lt h1 j hj)), h2, fun r hr => ?_⟩
    rcases List.mem_cons.1 hr with e | e
    · rw [e]; exact fun ho => by have := hF.lt h1 _ ho; exact absurd this (Nat.lt_irrefl _)
    · exact h3 r e
  refine ⟨⟨O', g1, g2, g3⟩, hk.low, fun r hr => ?_, fun r hr => ?_, ?_⟩
  · rcases List.mem_cons.1 hr with e | e
    · rw [e]; exact Rw.new W cs t
    · exact hk.rows r e
  · rcases List.mem_cons.1 hr with e | e
    · rw [e]; exact h.low.size
    · exact h.ge r e
  · rw [List.map_cons, List.nodup_cons]
    refine ⟨fun hm => ?_, h.nd⟩
    obtain ⟨r, hr, e⟩ := List.mem_map.1 hm
    have h4 := (h.rows r hr).lt
    rw [show r.1 = W.heap.size from e] at h4
    exact absurd h4 (Nat.lt_irrefl _)
/-- Rows that aren't wanted any more. -/
theorem One.sub {L' : List Row} (h : One F w W L b a) (hL : L'.Sublist L) : One F w W L' b a := by
  obtain ⟨O, h1, h2, h3⟩ := h.ex
  exact ⟨⟨O, h1, h2, fun r hr => h3 r (hL.subset hr)⟩, h.low, fun r hr => h.rows r (hL.subset hr), fun r hr => h.ge r (hL.subset hr), h.nd.sublist (hL.map _)⟩
theorem One.tail {r : Row} (h : One F w W (r :: L) b a) : One F w W L b a := h.sub (List.sublist_cons_self _ _)
theorem One.nil (h : One F w W L b a) : One F w W [] b a := h.sub (List.nil_sublist _)
theorem One.swap {x y : Row} (h : One F w W (x :: y :: L) b a) : One F w W (y :: x :: L) b a := by
  obtain ⟨O, h1, h2, h3⟩ := h.ex
  have hm : ∀ r, r ∈ y :: x :: L → r ∈ x :: y :: L := fun r hr => by
    simp only [List.mem_cons] at hr ⊢
    rcases hr with e | e | e
    · exact .inr (.inl e)
    · exact .inl e
    · exact .inr (.inr e)
  refine ⟨⟨O, h1, h2, fun r hr => h3 r (hm r hr)⟩, h.low, fun r hr => h.rows r (hm r hr), fun r hr => h.ge r (hm r hr), ?_⟩
  have hn := h.nd
  simp only [List.map_cons, List.nodup_cons, List.mem_cons, not_or] at hn ⊢
  exact ⟨⟨fun e => hn.1.1 e.symm, hn.2.1⟩, hn.1.2, hn.2.2⟩
/-- The first row is written whole, or at one cell. -/
theorem One.setRow {A : Nat} {old : Array Value} {t : TypeId} (hF : KeepsO F) (h : One F w W ((A, old, t) :: L) b a) (cs : Array Value) : One F w (W.setRow A cs) ((A, cs, t) :: L) b a := by
  obtain ⟨O, h1, h2, h3⟩ := h.ex
  have hA := h.rows _ (List.mem_cons_self ..)
  have hg : w.heap.size ≤ A := h.ge _ (List.mem_cons_self ..)
  have hO : ¬ O A := h3 _ (List.mem_cons_self ..)
  have hn := h.nd
  simp only [List.map_cons, List.nodup_cons] at hn
  refine ⟨⟨O, hF.keep h1 (fun j hj => setRow_block W A j cs (fun e => hO (e ▸ hj))), h2, fun r hr => ?_⟩, below_setRow h.low hg cs, fun r hr => ?_, fun r hr => ?_, ?_⟩
  · rcases List.mem_cons.1 hr with e | e
    · rw [e]; exact hO
    · exact h3 r (List.mem_cons_of_mem _ e)
  · rcases List.mem_cons.1 hr with e | e
    · rw [e]; exact hA.set cs
    · exact (setRow_block W A r.1 cs (fun e2 => hn.1 (List.mem_map.2 ⟨r, e, e2⟩))).trans (h.rows r (List.mem_cons_of_mem _ e))
  · rcases List.mem_cons.1 hr with e | e
    · rw [e]; exact hg
    · exact h.ge r (List.mem_cons_of_mem _ e)
  · simp only [List.map_cons, List.nodup_cons]; exact hn
theorem One.setCell {A : Nat} {old : Array Value} {t : TypeId} (hF : KeepsO F) (h : One F w W ((A, old, t) :: L) b a) (i : Nat) (u : Value) : One F w (W.setCell ⟨A, i, none⟩ u) ((A, old.setIfInBounds i u, t) :: L) b a := by
  obtain ⟨O, h1, h2, h3⟩ := h.ex
  have hA := h.rows _ (List.mem_cons_self ..)
  have hg : w.heap.size ≤ A := h.ge _ (List.mem_cons_self ..)
  have hO : ¬ O A := h3 _ (List.mem_cons_self ..)
  have hn := h.nd
  simp only [List.map_cons, List.nodup_cons] at hn
  have hs : ∀ k, k ≠ A → (W.setCell ⟨A, i, none⟩ u).heap[k]? = W.heap[k]? := fun k hk => Below.heap_setCell W ⟨A, i, none⟩ u k hk
  refine ⟨⟨O, hF.keep h1 (fun j hj => hs j (fun e => hO (e ▸ hj))), h2, fun r hr => ?_⟩, below_setCell h.low hg u, fun r hr => ?_, fun r hr => ?_, ?_⟩
  · rcases List.mem_cons.1 hr with e | e
    · rw [e]; exact hO
    · exact h3 r (List.mem_cons_of_mem _ e)
  · rcases List.mem_cons.1 hr with e | e
    · rw [e]
      unfold Rw at hA ⊢
      simp only at hA ⊢
      simp [World.setCell, Array.getElem?_modify, hA]
    · exact (hs r.1 (fun e2 => hn.1 (List.mem_map.2 ⟨r, e, e2⟩))).trans (h.rows r (List.mem_cons_of_mem _ e))
  · rcases List.mem_cons.1 hr with e | e
    · rw [e]; exact hg
    · exact h.ge r (List.mem_cons_of_mem _ e)
  · simp only [List.map_cons, List.nodup_cons]; exact hn
theorem One.row1 {A : Nat} {cs : Array Value} {t : TypeId} (h : One F w W ((A, cs, t) :: L) b a) : Rw W A cs t := h.rows _ (List.mem_cons_self ..)
theorem One.row2 {A : Nat} {cs : Array Value} {t : TypeId} {x : Row} (h : One F w W (x :: (A, cs, t) :: L) b a) : Rw W A cs t := h.tail.row1
theorem One.row3 {A : Nat} {cs : Array Value} {t : TypeId} {x y : Row} (h : One F w W (x :: y :: (A, cs, t) :: L) b a) : Rw W A cs t := h.tail.row2
theorem One.row4 {A : Nat} {cs : Array Value} {t : TypeId} {x y z : Row} (h : One F w W (x :: y :: z :: (A, cs, t) :: L) b a) : Rw W A cs t := h.tail.row3
/-- A call turned it. -/
theorem One.turn (_hF : KeepsO F) (h : One F w W L b a) {f : FuncId} {args : Array Value} {Pe : Ending → Prop} (hc : ∀ O, F O W b a → Calls Try.prog f args W fun e w' => Pe e ∧ TurnO F O W w' b a') : Calls Try.prog f args W fun e w' => Pe e ∧ One F w w' L b a' := by
  obtain ⟨O, h1, h2, h3⟩ := h.ex
  refine (hc O h1).mono fun e w' ⟨he, O', g1, g2, g3⟩ => ⟨he, ⟨O', g1, fun j hj => ?_, fun r hr ho => ?_⟩, g3.below h.low h2 h.low.size, fun r hr => (g3.block r.1 (h.rows r hr).lt (h3 r hr)).trans (h.rows r hr), h.ge, h.nd⟩
  · rcases g2 j hj with e | e
    · exact h2 j e
    · exact Nat.le_trans h.low.size e
  · rcases g2 r.1 ho with e | e
    · exact h3 r hr e
    · have := (h.rows r hr).lt; omega
/-- It is read. -/
theorem One.look (hF : KeepsO F) (h : One F w W L b a) {f : FuncId} {args : Array Value} {Pe : Ending → Prop} (hc : ∀ O, F O W b a → Calls Try.prog f args W fun e w' => Pe e ∧ Below W.heap.size W w') : Calls Try.prog f args W fun e w' => Pe e ∧ One F w w' L b a := by
  obtain ⟨O, h1, _⟩ := h.ex
  exact (hc O h1).mono fun e w' ⟨he, hb⟩ => ⟨he, h.keep hF hb⟩
/-- A call that doesn't meet it. -/
theorem One.aside (hF : KeepsO F) (h : One F w W L b a) {f : FuncId} {args : Array Value} {Pe : Ending → Prop} (hc : Calls Try.prog f args W fun e w' => Pe e ∧ Below W.heap.size W w') : Calls Try.prog f args W fun e w' => Pe e ∧ One F w w' L b a :=
  hc.mono fun _ _ ⟨he, hb⟩ => ⟨he, h.keep hF hb⟩
theorem NewO.one (h : NewO F W W' b a) (hw : Below w.heap.size w W) : One F w W' [] b a := by
  obtain ⟨O, h1, h2, h3⟩ := h
  exact ⟨⟨O, h1, fun j hj => Nat.le_trans hw.size (h2 j hj), fun r hr => by cases hr⟩, hw.trans (h3.mono hw.size), fun r hr => (by cases hr), fun r hr => (by cases hr), List.nodup_nil⟩
end
end Go.Proofs.Ytchaeidmjoelnaa
namespace Go.Proofs.Ytchaeidmjoelnaa
open Go.RowKit

/-- What a model tells of itself. -/
def repC (m : Md) : Array Value := #[.int .i64 0, .int .i64 m.s.ph, .int .i64 m.s.ac, .int .i64 m.s.r0, .int .i64 m.s.r1, .int .i64 m.s.w0, .int .i64 m.s.w1, .bool m.s.p0, .bool m.s.p1, .int .i64 m.s.dl, .int .i64 m.s.gn, .int .i64 m.s.sw, .int .i64 m.s.fl, .int .i64 m.ro.slot, .int .i64 m.ro.gen, .int .i64 (m.k.length : Int), .int .i64 (m.l.length : Int), .int .i64 (cntL m.k : Int), .int .i64 (cntL m.l : Int), .bool true, .int .i64 m.tick]
def repV (m : Md) : Value := .agg (repC m)
theorem repC_one (m : Md) : (repC m).all (·.oneCell') = true := by simp [repC, Value.oneCell']
abbrev ptr (b : Nat) : Value := .pointer (some ⟨b, 0, none⟩)
/-- F is how a model of the package lies in memory, in blocks of O; its calls are what the document says. -/
structure PkgMd (F : ObIn Md) : Prop where
  ks : KeepsO F
  new : ∀ (rev n tries : Int) (W : World), Fits rev → Fits n → Fits tries → Calls Try.prog 11 #[.int .i64 rev, .int .i64 n, .int .i64 tries] W fun e w' =>
    (rightS (firstS rev n) = true ∧ ∃ b, e = .returned (.tuple #[ptr b, .int .i64 0]) ∧ NewO F W w' b (newM (firstS rev n) tries)) ∨ (rightS (firstS rev n) = false ∧ e = .returned (.tuple #[.pointer none, .int .i64 1]) ∧ Below W.heap.size W w')
  op : ∀ {O W b m} (o : Oc), F O W b m → MdI m → FitsO o → Calls Try.prog 16 #[ptr b, opV o] W fun e w' => e = .returned (.int .i64 (opM m o).2) ∧ TurnO F O W w' b (opM m o).1
  step : ∀ {O W b m} (n : Nat) (v : Value) (xs : List Int), F O W b m → MdI m → Bd n m.ro m.fu → n + 10 < 100000 → IntsI W v xs → xs.length ≤ 100 → Calls Try.prog 19 #[ptr b, v] W fun e w' => e = .returned (.int .i64 (stepM m xs).2) ∧ TurnO F O W w' b (stepM m xs).1
  ready : ∀ {O W b m} (s i : Int) (on : Bool), F O W b m → MdI m → Calls Try.prog 20 #[ptr b, .int .i64 s, .int .i64 i, .bool on] W fun e w' => e = .returned (.bool (decide (isW (slotK s m.k m.l) i))) ∧ TurnO F O W w' b (readyM m s i on)
  tick : ∀ {O W b m} (n : Int), F O W b m → MdI m → Fits n → Calls Try.prog 18 #[ptr b, .int .i64 n] W fun e w' => e = .returned (.tuple #[]) ∧ TurnO F O W w' b (tickM m n)
  reply : ∀ {O W b m}, F O W b m → MdI m → Calls Try.prog 12 #[ptr b] W fun e w' => e = .returned (repV m) ∧ TurnO F O W w' b m
/-- What holds of a model, and bounds behind n calls. -/
structure MdN (n : Nat) (m : Md) : Prop where
  inv : MdI m
  bd : Bd n m.ro m.fu
theorem MdN.up {n k : Nat} {m : Md} (h : MdN n m) (hk : n ≤ k) : MdN k m := ⟨h.inv, h.bd.up hk⟩
theorem put_rf (m : Md) (r : Rc) : (putM m r).1.ro = m.ro ∧ (putM m r).1.fu = m.fu := ⟨rfl, rfl⟩
theorem op_rf (m : Md) (o : Oc) : (opM m o).1.ro = m.ro ∧ (opM m o).1.fu = m.fu := by
  unfold opM
  split <;> exact ⟨rfl, rfl⟩
theorem MdN.op {n : Nat} {m : Md} (h : MdN n m) (o : Oc) : MdN n (opM m o).1 := ⟨op_inv h.inv o, by rw [(op_rf m o).1, (op_rf m o).2]; exact h.bd⟩
theorem MdN.ready {n : Nat} {m : Md} (h : MdN n m) (s i : Int) (on : Bool) : MdN n (readyM m s i on) := ⟨ready_inv h.inv s i on, h.bd⟩
theorem MdN.fill {n : Nat} {m : Md} (h : MdN n m) : MdN n (fillM m) := ⟨fill_inv h.inv, h.bd⟩
theorem MdN.tick {n : Nat} {m : Md} (h : MdN n m) (d : Int) : MdN n (tickM m d) := ⟨tick_inv h.inv d, h.bd⟩
theorem mdn_new {rev n tries : Int} (h : rightS (firstS rev n) = true) : MdN 0 (newM (firstS rev n) tries) := ⟨new_inv h, bd0⟩
theorem bd_route {n : Nat} {m : Md} (h : Bd n m.ro m.fu) : Bd (n + 8) (routeM m).1.ro (routeM m).1.fu := by
  have hj := (setJ_is m.s.gn (1 - m.s.ac) m.ro m.fu m.tries).le
  have ht := triesC_in m.tries
  have hb := (bd_st (gen := m.s.gn) (slot := 1 - m.s.ac) h (setJ m.s.gn (1 - m.s.ac) m.ro m.fu m.tries)).up (m := n + 8) (by omega)
  unfold routeM
  split <;> exact hb
theorem bd_go {n : Nat} {m : Md} (hI : SetI m) (h : Bd n m.ro m.fu) : Bd (n + 8) (goM 4 m).1.ro (goM 4 m).1.fu := by
  have h8 := h.up (m := n + 8) (by omega)
  rcases ways hI with ⟨_, e⟩ | ⟨_, _, e⟩ | ⟨_, _, _, e⟩ | ⟨_, e⟩ | ⟨_, _, _, _, e⟩ | ⟨_, _, _, e⟩
  · rw [e]; exact h8
  · rw [e]; exact h8
  · rw [e]; exact h8
  · rw [e]; exact h8
  · rw [e]; exact h8
  · rw [e]; exact bd_route (m := { m with s := comS m.s }) h
theorem MdN.step {n : Nat} {m : Md} (h : MdN n m) {xs : List Int} (hx : xs.length ≤ 100) : MdN (n + 10) (stepM m xs).1 := by
  refine ⟨step_inv h.inv xs, ?_⟩
  unfold stepM
  rw [script_is h.inv.set xs]
  have hb := h.bd.script xs hx
  exact (bd_go (m := { m with ro := { m.ro with outs := m.ro.outs ++ xs } }) (script_inv h.inv xs).set hb).up (by omega)
/-- An act. -/
structure Am where
  kind : Int
  slot : Int
  num : Int
  on : Bool
  op : Oc
  outs : List Int
instance : Inhabited Am := ⟨⟨0, 0, 0, false, ⟨0, 0, 0, 0, false⟩, []⟩⟩
def amC (a : Am) (v : Value) : Array Value := #[.int .i64 a.kind, .int .i64 a.slot, .int .i64 a.num, .bool a.on, .int .i64 a.op.kind, .int .i64 a.op.rev, .int .i64 a.op.cnt, .int .i64 a.op.delay, .bool a.op.pass, v]
structure FitsA (a : Am) : Prop where
  kind : Fits a.kind
  slot : Fits a.slot
  num : Fits a.num
  op : FitsO a.op
  outs : ∀ y ∈ a.outs, Fits y
/-- What it leaves, and tells. -/
def actM (m : Md) (a : Am) : Md × Int :=
  if a.kind = 1 then opM m a.op
  else if a.kind = 2 then stepM m a.outs
  else if a.kind = 3 then (readyM m a.slot a.num a.on, if isW (slotK a.slot m.k m.l) a.num then 1 else 0)
  else if a.kind = 4 then (tickM m a.num, 0)
  else (m, 0)
theorem MdN.act {n : Nat} {m : Md} (h : MdN n m) (a : Am) (ha : a.outs.length ≤ 100) : MdN (n + 10) (actM m a).1 := by
  unfold actM
  split
  · exact (h.op _).up (by omega)
  split
  · exact h.step ha
  split
  · exact (h.ready _ _ _).up (by omega)
  split
  · exact (h.tick _).up (by omega)
  · exact h.up (by omega)
def actsM (m : Md) : List Am → Md
  | [] => m
  | a :: l => actsM (actM m a).1 l
theorem acts_append (m : Md) (l : List Am) (a : Am) : actsM m (l ++ [a]) = (actM (actsM m l) a).1 := by
  induction l generalizing m with
  | nil => rfl
  | cons x l ih => exact ih (actM m x).1
theorem acts_take (m : Md) (l : List Am) (k : Nat) (h : k < l.length) : actsM m (l.take (k + 1)) = (actM (actsM m (l.take k)) l[k]).1 := by
  rw [List.take_succ_eq_append_getElem h, acts_append]
theorem MdN.acts {n : Nat} {m : Md} (h : MdN n m) : ∀ (l : List Am), (∀ a ∈ l, a.outs.length ≤ 100) → MdN (n + 10 * l.length) (actsM m l)
  | [], _ => h
  | a :: l, hl => by
    have := (h.act a (hl a (List.mem_cons_self ..))).acts l (fun x hx => hl x (List.mem_cons_of_mem _ hx))
    exact this.up (by simp only [List.length_cons]; omega)
/-- Acts that came in. -/
def ActsI (W : World) (v : Value) (xs : List Am) : Prop :=
  ((v = .slice none 0 0 ∨ ∃ a c, v = .slice (some a) 0 c) ∧ xs = []) ∨ ∃ b o c, v = .slice (some ⟨b, o, none⟩) xs.length c ∧ 0 < xs.length ∧ xs.length ≤ c ∧ b < W.heap.size ∧ ∀ k (h : k < xs.length), ∃ u, W.rangeAt b (o + k * 10) (amC xs[k] u).toList ∧ IntsI W u xs[k].outs ∧ FitsA xs[k]
theorem ActsI.shape {W : World} {v : Value} {xs : List Am} (h : ActsI W v xs) : ∃ A c, v = .slice A xs.length c := by
  rcases h with ⟨rfl | ⟨a, c, rfl⟩, rfl⟩ | ⟨b, o, c, rfl, _⟩ <;> exact ⟨_, _, rfl⟩
theorem range_under {W W' : World} {b o B : Nat} {cs : List Value} (h : W.rangeAt b o cs) (hb : Below B W W') (hB : b < B) : W'.rangeAt b o cs := fun j v hv => (hb.cell (p := ⟨b, o + j, none⟩) hB).trans (h j v hv)
/-- The k-th of them, in a world that is as it was below. -/
theorem ActsI.kth {w w' : World} {A : Option Addr} {c k : Nat} {xs : List Am} (h : ActsI w (.slice A xs.length c) xs) (hb : Below w.heap.size w w') (hk : k < xs.length) :
    ∃ b o u, A = some ⟨b, o, none⟩ ∧ w'.rangeAt b (o + k * 10) (amC xs[k] u).toList ∧ IntsI w' u xs[k].outs ∧ FitsA xs[k] ∧ b < w.heap.size := by
  rcases h with ⟨_, rfl⟩ | ⟨b, o, c', h1, h2, h3, h4, h5⟩
  · simp at hk
  · injection h1 with h1
    obtain ⟨u, g1, g2, g3⟩ := h5 k hk
    exact ⟨b, o, u, h1, range_under g1 hb h4, g2.under hb (Nat.le_refl _), g3, h4⟩
theorem i10 : (Try.prog.info? 34).map (·.size) = some 10 := by kernel_rfl
theorem i21 : (Try.prog.info? 44).map (·.size) = some 21 := by kernel_rfl
theorem i5 : (Try.prog.info? 31).map (·.size) = some 5 := by kernel_rfl
theorem Rw.range {W : World} {b o : Nat} {cs : Array Value} {t : TypeId} (h : Rw W b cs t) (l : List Value) (hl : ∀ j v, l[j]? = some v → cs[o + j]? = some v) : W.rangeAt b o l := fun j v hv => by rw [h.cell]; exact hl j v hv
section
variable {F : ObIn Md} {w W : World} {L : List Row} {b n : Nat} {m : Md}
theorem one_op (hp : PkgMd F) (h : One F w W L b m) (hI : MdN n m) (o : Oc) (ho : FitsO o) : Calls Try.prog 16 #[ptr b, opV o] W fun e w' => e = .returned (.int .i64 (opM m o).2) ∧ One F w w' L b (opM m o).1 := h.turn hp.ks fun _ h1 => hp.op o h1 hI.inv ho
theorem one_step (hp : PkgMd F) (h : One F w W L b m) (hI : MdN n m) {v : Value} {xs : List Int} (hn : n + 10 < 100000) (hv : IntsI W v xs) (hx : xs.length ≤ 100) : Calls Try.prog 19 #[ptr b, v] W fun e w' => e = .returned (.int .i64 (stepM m xs).2) ∧ One F w w' L b (stepM m xs).1 := h.turn hp.ks fun _ h1 => hp.step n v xs h1 hI.inv hI.bd hn hv hx
theorem one_ready (hp : PkgMd F) (h : One F w W L b m) (hI : MdN n m) (s i : Int) (on : Bool) : Calls Try.prog 20 #[ptr b, .int .i64 s, .int .i64 i, .bool on] W fun e w' => e = .returned (.bool (decide (isW (slotK s m.k m.l) i))) ∧ One F w w' L b (readyM m s i on) := h.turn hp.ks fun _ h1 => hp.ready s i on h1 hI.inv
theorem one_tick (hp : PkgMd F) (h : One F w W L b m) (hI : MdN n m) (d : Int) (hd : Fits d) : Calls Try.prog 18 #[ptr b, .int .i64 d] W fun e w' => e = .returned (.tuple #[]) ∧ One F w w' L b (tickM m d) := h.turn hp.ks fun _ h1 => hp.tick d h1 hI.inv hd
theorem one_reply (hp : PkgMd F) (h : One F w W L b m) (hI : MdN n m) : Calls Try.prog 12 #[ptr b] W fun e w' => e = .returned (repV m) ∧ One F w w' L b m := h.turn hp.ks fun _ h1 => hp.reply h1 hI.inv
end
end Go.Proofs.Ytchaeidmjoelnaa
namespace Go.Proofs.Ytchaeidmjoelnaa
open Go.RowKit

/-- A load of a struct in the middle of a block, where the operation is wanted. -/
theorem load_mid {P : Program} {ops : Array Oper} {rest : List Oper} {op : Oper} {a : Act} {w : World} {Q : Exit → Act → World → Prop} (hw : Region.wanted op (yielded ops a.tmps) = true) (ty : TypeId) (x : Operand) (ho : op.op = .load ty x)
    (b o : Nat) (hx : a.eval x = .pointer (some ⟨b, o, none⟩)) (cs : Array Value) (d : TypeDesc) (hc : w.rangeAt b o cs.toList)
    (hu : P.underlying ty = some d) (hd : d.isRow = true) (hi : (P.info? ty).map (·.size) = some cs.size)
    (h : wpList P ops Q rest (a.put op.dst (.agg cs)) w) : wpList P ops Q (op :: rest) a w :=
  wpList_step fun _ hK => by rw [if_pos hw]; exact wp_load_mid ty x ho b o hx cs.toList d hc hu hd (by simpa using hi) (hK _ _ (by simpa using h))
theorem IntsI.shape {W : World} {v : Value} {xs : List Int} (h : IntsI W v xs) : ∃ A c, v = .slice A xs.length c := by
  rcases h with ⟨rfl | ⟨a, c, rfl⟩, rfl⟩ | ⟨b, o, c, rfl, _⟩ <;> exact ⟨_, _, rfl⟩
theorem copy_ints {w : World} {v : Value} {xs : List Int} (h : IntsI w v xs) (hn : xs.length ≤ 100000) :
    ∃ A n c W, (Builtin.append_ #[32, 32] 32 #[.slice (some ⟨w.heap.size, 0, none⟩) 0 0, v]).run Try.prog (w.alloc (.cells #[] 3)) = .ok (.slice A n c) W ∧ IntsI W (.slice A n c) xs ∧ Below w.heap.size w W := by
  have ba : Below w.heap.size w (w.alloc (.cells #[] 3)) := (Below.refl _ _).alloc (Nat.le_refl _) _
  obtain ⟨v1, W1, e1, o1, g1⟩ := append_ints (own0 w (Nat.le_refl _)) (h.under ba (Nat.le_refl _)) (Nat.le_of_lt (by simp)) (by simp; omega)
  rw [List.nil_append] at o1
  have b1 := below_grown ba g1 (fun k hk => by simp [Value.ownBlock] at hk; omega) (Nat.le_refl _)
  have hr : IntsI W1 v1 xs := Own.reads (own_base o1)
  obtain ⟨A, c, rfl⟩ := IntsI.shape hr
  exact ⟨A, _, c, W1, e1, hr, b1⟩
section
variable {F : ObIn Md}
set_option maxRecDepth 100000 in
set_option maxHeartbeats 4000000 in
theorem do_c (hp : PkgMd F) {n b : Nat} {m : Md} {L : List Row} {w : World} (kd sl nm : Int) (on : Bool) (op : Oc) (po : List Int) (A' : Option Addr) (c' : Nat) (W : World) (h : One F w W L b m) (hI : MdN n m) (hn : n + 10 < 100000) (hu : IntsI W (.slice A' po.length c') po) (ha : FitsA ⟨kd, sl, nm, on, op, po⟩) (hx : po.length ≤ 100) :
    Calls Try.prog 13 #[ptr b, .agg (amC ⟨kd, sl, nm, on, op, po⟩ (.slice A' po.length c'))] W fun e w' => e = .returned (.int .i64 (actM m ⟨kd, sl, nm, on, op, po⟩).2) ∧ One F w w' L b (actM m ⟨kd, sl, nm, on, op, po⟩).1 := by
  obtain ⟨cs, hcs⟩ : ∃ c, c = amC ⟨kd, sl, nm, on, op, po⟩ (.slice A' po.length c') := ⟨_, rfl⟩
  rw [← hcs]
  have HC := Lib.hid hcs
  have HP := Lib.hid hp
  have HI := Lib.hid hI
  have HN := Lib.hid hn
  have HX := Lib.hid hx
  have HA := Lib.hid ha
  have HH := Lib.hid h
  have HU := Lib.hid hu
  clear hcs hI hn hx ha h hu hp
  go_enter Try.func13, Try.ntmps13
  go_upto_region 1 with (fail)
  obtain ⟨A, hA⟩ : ∃ A, A = W.heap.size := ⟨_, rfl⟩
  rw [← hA]
  refine name_w (fun V => One F w V ((A, cs, 34) :: L) b m ∧ IntsI V (.slice A' po.length c') po) ⟨by rw [hA]; exact HH.out.alloc HP.out.ks cs 34, HU.out.under ((Below.refl _ _).alloc (Nat.le_refl _) _) (Nat.le_refl _)⟩ ?_
  clear hA HH HU
  rintro V ⟨h1, h2⟩
  have hr := h1.row1
  have c0 : V.cell? ⟨A, 0, none⟩ = some (.int .i64 kd) := by rw [hr.cell 0, HC.out]; rfl
  have c1 : V.cell? ⟨A, 1, none⟩ = some (.int .i64 sl) := by rw [hr.cell 1, HC.out]; rfl
  have c2 : V.cell? ⟨A, 2, none⟩ = some (.int .i64 nm) := by rw [hr.cell 2, HC.out]; rfl
  have c3 : V.cell? ⟨A, 3, none⟩ = some (.bool on) := by rw [hr.cell 3, HC.out]; rfl
  have c9 : V.cell? ⟨A, 9, none⟩ = some (.slice A' po.length c') := by rw [hr.cell 9, HC.out]; rfl
  have HG : Hid (V.rangeAt A 4 (opC op).toList) := Lib.hid (hr.range _ (fun j v hv => by
    rw [HC.out]
    match j, hv with
    | 0, hv => exact hv
    | 1, hv => exact hv
    | 2, hv => exact hv
    | 3, hv => exact hv
    | 4, hv => exact hv
    | j + 5, hv => simp [opC] at hv))
  have H1 := Lib.hid h1
  have HU := Lib.hid h2
  clear h1 h2 hr
  by_cases k1 : kd = 1
  case pos =>
    subst k1
    have HE : Hid (actM m ⟨1, sl, nm, on, op, po⟩ = opM m op) := Lib.hid (by rfl)
    go_wp2_with (first | (refine load_mid (by rfl) 31 (.tmp 10) rfl A 4 rfl (opC op) _ HG.out Try.underlying31 rfl i5 ?_))
    refine (one_op HP.out H1.out HI.out op HA.out.op).mono ?_
    rintro e V2 ⟨rfl, h2⟩
    have H2 := Lib.hid h2
    clear h2
    go_wp2
    go_ret
    exact ⟨by rw [HE.out]; rfl, by rw [HE.out]; exact H2.out.tail⟩
  have e1 : (kd == 1) = false := beq_eq_false_iff_ne.2 k1
  have K1 := Lib.hid k1
  clear k1 HG
  by_cases k2 : kd = 2
  case pos =>
    subst k2
    have HE : Hid (actM m ⟨2, sl, nm, on, op, po⟩ = stepM m po) := Lib.hid (by rfl)
    obtain ⟨A1, n1, q1, W1, ea, hi1, hb1⟩ := copy_ints HU.out (by have := HX.out; omega)
    have E1 := Lib.hid ea
    have HI1 := Lib.hid hi1
    have H2 := Lib.hid (H1.out.keep HP.out.ks hb1)
    have kA9 : (V.alloc (.cells #[] 3)).cell? ⟨A, 9, none⟩ = some (.slice A' po.length c') := ((below_alloc V (.cells #[] 3)).cell (p := ⟨A, 9, none⟩) H1.out.row1.lt).trans c9
    have bs0 := build0
    clear ea hi1 hb1 H1
    go_wp2_with (first | (at_builtin; refine wpList_append_is rfl (.tmp 16) (.tmp 18) 32 rfl rfl rfl E1.out ?_))
    refine (one_step HP.out H2.out HI.out HN.out HI1.out HX.out).mono ?_
    rintro e V2 ⟨rfl, h2⟩
    have H3 := Lib.hid h2
    clear h2
    go_wp2
    go_ret
    exact ⟨by rw [HE.out]; rfl, by rw [HE.out]; exact H3.out.tail⟩
  have e2 : (kd == 2) = false := beq_eq_false_iff_ne.2 k2
  have K2 := Lib.hid k2
  clear k2 HU c9
  by_cases k3 : kd = 3
  case pos =>
    subst k3
    obtain ⟨v, hv⟩ : ∃ v, v = decide (isW (slotK sl m.k m.l) nm) := ⟨_, rfl⟩
    have HE : Hid (actM m ⟨3, sl, nm, on, op, po⟩ = (readyM m sl nm on, if v = true then 1 else 0)) := Lib.hid (by rw [show actM m ⟨3, sl, nm, on, op, po⟩ = (readyM m sl nm on, if isW (slotK sl m.k m.l) nm then 1 else 0) from rfl, hv]; simp only [decide_eq_true_eq])
    have HR := Lib.hid (one_ready HP.out H1.out HI.out sl nm on)
    rw [← hv] at HR
    clear hv
    go_wp2_with fail
    refine HR.out.mono ?_
    rintro e V2 ⟨rfl, h2⟩
    have H2 := Lib.hid h2
    clear h2
    cases v with
    | true =>
      go_wp2
      go_ret
      exact ⟨by rw [HE.out]; rfl, by rw [HE.out]; exact H2.out.tail⟩
    | false =>
      go_wp2
      go_ret
      exact ⟨by rw [HE.out]; rfl, by rw [HE.out]; exact H2.out.tail⟩
  have e3 : (kd == 3) = false := beq_eq_false_iff_ne.2 k3
  have K3 := Lib.hid k3
  clear k3
  by_cases k4 : kd = 4
  case pos =>
    subst k4
    have HE : Hid (actM m ⟨4, sl, nm, on, op, po⟩ = (tickM m nm, 0)) := Lib.hid (by rfl)
    go_wp2_with fail
    refine (one_tick HP.out H1.out HI.out nm HA.out.num).mono ?_
    rintro e V2 ⟨rfl, h2⟩
    have H2 := Lib.hid h2
    clear h2
    go_wp2
    go_ret
    exact ⟨by rw [HE.out]; rfl, by rw [HE.out]; exact H2.out.tail⟩
  have e4 : (kd == 4) = false := beq_eq_false_iff_ne.2 k4
  have HE : Hid (actM m ⟨kd, sl, nm, on, op, po⟩ = (m, 0)) := Lib.hid (by unfold actM; rw [if_neg K1.out, if_neg K2.out, if_neg K3.out, if_neg k4])
  clear k4
  go_wp2
  go_ret
  exact ⟨by rw [HE.out]; rfl, by rw [HE.out]; exact H1.out.tail⟩
theorem do_any (hp : PkgMd F) {n b : Nat} {m : Md} {L : List Row} {w W : World} (a : Am) (u : Value) (h : One F w W L b m) (hI : MdN n m) (hn : n + 10 < 100000) (hu : IntsI W u a.outs) (ha : FitsA a) (hx : a.outs.length ≤ 100) :
    Calls Try.prog 13 #[ptr b, .agg (amC a u)] W fun e w' => e = .returned (.int .i64 (actM m a).2) ∧ One F w w' L b (actM m a).1 := by
  obtain ⟨kd, sl, nm, on, op, po⟩ := a
  obtain ⟨A', c', rfl⟩ := IntsI.shape hu
  exact do_c hp kd sl nm on op po A' c' W h hI hn hu ha hx
/-- Behind j of slot sl's. -/
def fillAt (m : Md) (sl j : Nat) : Md := if sl = 0 then { m with k := fillTo m.k j } else { m with k := fillL m.k, l := fillTo m.l j }
theorem fillAt_ready {m : Md} (sl j : Nat) (hs : sl < 2) : readyM (fillAt m sl j) sl j true = fillAt m sl (j + 1) := by
  unfold fillAt readyM
  by_cases h : sl = 0
  · subst h
    rw [if_pos rfl, if_pos rfl]
    show { m with k := rdA _ _ _ _, l := rdB _ _ _ _ } = _
    rfl
  · obtain rfl : sl = 1 := by omega
    rfl
theorem fillAt_next {m : Md} (h : MdI m) : fillAt m 0 32 = fillAt m 1 0 ∧ fillAt m 1 32 = fillM m := by
  have hw := right_w h.right
  have h1 := h.lk
  have h2 := h.ll
  unfold fillAt fillM
  rw [if_pos rfl, if_neg (by decide), if_neg (by decide), fillTo_all m.k 32 (by omega), fillTo_all m.l 32 (by omega)]
  exact ⟨rfl, rfl⟩
theorem fillAt_inv {n : Nat} {m : Md} (h : MdN n m) (sl : Nat) (hs : sl < 2) : ∀ j, MdN n (fillAt m sl j)
  | 0 => by
    unfold fillAt
    split
    · exact h
    · exact ⟨⟨h.inv.right, by show ((fillL m.k).length : Int) = _; rw [fillL_len]; exact h.inv.lk, h.inv.ll, h.inv.tick, h.inv.fuse, h.inv.gen, h.inv.cell⟩, h.bd⟩
  | j + 1 => by rw [← fillAt_ready sl j hs]; exact (fillAt_inv h sl hs j).ready _ _ _
set_option maxRecDepth 100000 in
set_option maxHeartbeats 4000000 in
theorem fill_any (hp : PkgMd F) {n b : Nat} {m : Md} {L : List Row} {w : World} (W : World) (h : One F w W L b m) (hI : MdN n m) : Calls Try.prog 17 #[ptr b] W fun e w' => e = .returned (.tuple #[]) ∧ One F w w' L b (fillM m) := by
  have HP := Lib.hid hp
  have HI := Lib.hid hI
  have HN := Lib.hid (fillAt_next hI.inv)
  have HH : Hid (One F w W L b (fillAt m 0 0)) := Lib.hid h
  clear hp hI h
  go_enter Try.func17, Try.ntmps17
  go_wp2
  go_loopg [4] 2 (fun m' sv wr => ∃ sl : Nat, Hid (m' = 2 - sl) ∧ sl ≤ 2 ∧ sv = .int .i64 (sl : Int) ∧ Hid (One F w wr L b (if sl < 2 then fillAt m sl 0 else fillM m)))
  case atStart => exact ⟨0, Lib.hid rfl, by omega, rfl, by rw [if_pos (by omega)]; exact HH⟩
  case round =>
    obtain ⟨sl, HG, hsl, rfl, HO⟩ := hrel
    clear HH
    by_cases hlt : sl < 2
    case pos =>
      have HLT := Lib.hid hlt
      have HO1 : Hid (One F w wr L b (fillAt m sl 0)) := Lib.hid (by have h := HO.out; rw [if_pos hlt] at h; exact h)
      have hd : decide ((sl : Int) < 2) = true := by simp; omega
      have hd2 : decide (sl < 2) = true := by simpa using hlt
      clear HO
      go_wp2
      go_loopg [7] 32 (fun m2 jv wr => ∃ j : Nat, Hid (m2 = 32 - j) ∧ j ≤ 32 ∧ jv = .int .i64 (j : Int) ∧ Hid (One F w wr L b (fillAt m sl j)))
      case atStart => exact ⟨0, Lib.hid rfl, by omega, rfl, HO1⟩
      case round =>
        obtain ⟨j, HGj, hj, rfl, HOj⟩ := hrel
        clear HO1
        by_cases hjl : j < 32
        case pos =>
          have HJ := Lib.hid hjl
          have hdj : decide ((j : Int) < 32) = true := by simp; omega
          have hdj2 : decide (j < 32) = true := by simpa using hjl
          go_wp2_with fail
          refine (one_ready HP.out HOj.out (fillAt_inv HI.out sl HLT.out j) (sl : Int) (j : Int) true).mono ?_
          rintro e V2 ⟨rfl, h2⟩
          rw [fillAt_ready sl j HLT.out] at h2
          have H2 := Lib.hid h2
          clear h2 hdj hdj2
          go_wp2
          go_roundg (32 - (j + 1))
          case measure => have := HGj.out; have := HJ.out; omega
          case rel => exact ⟨j + 1, Lib.hid rfl, HJ.out, by go_num, H2⟩
        case neg =>
          obtain rfl : j = 32 := by omega
          clear hjl hj
          go_wp2
          go_roundg (2 - (sl + 1))
          case measure => have := HG.out; have := HLT.out; omega
          case rel =>
            refine ⟨sl + 1, Lib.hid rfl, HLT.out, by go_num, Lib.hid ?_⟩
            have h2 := HOj.out
            have h3 := HLT.out
            by_cases h0 : sl = 0
            · subst h0
              rw [if_pos (by omega)]
              rw [HN.out.1] at h2
              exact h2
            · obtain rfl : sl = 1 := by omega
              rw [if_neg (by omega)]
              rw [HN.out.2] at h2
              exact h2
    case neg =>
      obtain rfl : sl = 2 := by omega
      have HO1 : Hid (One F w wr L b (fillM m)) := Lib.hid (by have h := HO.out; rw [if_neg hlt] at h; exact h)
      clear HO hlt hsl
      go_wp2
      go_end0
      exact ⟨rfl, HO1.out⟩
end
end Go.Proofs.Ytchaeidmjoelnaa
