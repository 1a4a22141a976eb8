/-
  A thing in memory, in blocks of its own (ObIn); what a call leaves of it (TurnO); one thing behind a world, and rows of the law's own beside it (One).
  Package model's calls as a bundle (PkgMd) over the plain model; bounds behind n calls of the router (MdN); acts.
  The laws' own do and fill, over a model of the package.
  A reply is equal to itself; the laws' own great; their awake.
  From a law's walk to its given row: a state, an operation that came in; the arguments as they were.
  What the laws over a model share: acts one by one, bounds.
-/
import Derived.Test.YtchaeidmjoelnaaGreatFleA
import Derived.Test.YtchaeidmjoelnaaGreatStMem
import Derived.Test.YtchaeidmjoelnaaGreatMdA
import Derived.Test.YtchaeidmjoelnaaGreatMayF
import Derived.Test.YtchaeidmjoelnaaGreatRouD
import Derived.Deep.LoopGhost
import Derived.Test.YtchaeidmjoelnaaGreatPkF
import Derived.DeepKeys
import Derived.Test.YtchaeidmjoelnaaGreatRows
import Derived.ChangeSame
import Derived.ChangeVars
import Derived.JoinedOf
import Derived.RowKit
import Derived.RowKitTokens
import Derived.LaidLaws
import Derived.Stop.Joined
import Derived.Carry
import Derived.ProofKit
import Derived.OpenShut
import Derived.ChangeMaps5
import Derived.Deep.Slices
import Derived.WideKeyArr2
import Derived.Deep.SlicePairs
namespace Go.Proofs.YtchaeidmjoelnaaGreat
open Go.RowKit

/-- How a thing lies in memory: its blocks, the world, its handle's block, what it is. -/
abbrev ObIn (α : Type) := (Nat → Prop) → World → Nat → α → Prop
structure KeepsO {α : Type} (G : ObIn α) : Prop where
  lt : ∀ {O W b a}, G O W b a → ∀ j, O j → j < W.heap.size
  keep : ∀ {O W W' b a}, G O W b a → (∀ j, O j → W'.heap[j]? = W.heap[j]?) → G O W' b a
/-- What a call leaves: the thing, in blocks that it had or that are new; nothing else turned. -/
def TurnO {α : Type} (F : ObIn α) (O : Nat → Prop) (W W' : World) (b : Nat) (a : α) : Prop :=
  ∃ O' : Nat → Prop, F O' W' b a ∧ (∀ j, O' j → O j ∨ W.heap.size ≤ j) ∧ ButO O W W'
def NewO {α : Type} (F : ObIn α) (W W' : World) (b : Nat) (a : α) : Prop :=
  ∃ O : Nat → Prop, F O W' b a ∧ (∀ j, O j → W.heap.size ≤ j) ∧ Below W.heap.size W W'
abbrev Row := Nat × Array Value × TypeId
/-- One thing behind the world w, and rows of the law's own. -/
structure One {α : Type} (F : ObIn α) (w W : World) (L : List Row) (b : Nat) (a : α) : Prop where
  ex : ∃ O : Nat → Prop, F O W b a ∧ (∀ j, O j → w.heap.size ≤ j) ∧ ∀ r ∈ L, ¬ O r.1
  low : Below w.heap.size w W
  rows : ∀ r ∈ L, Rw W r.1 r.2.1 r.2.2
  ge : ∀ r ∈ L, w.heap.size ≤ r.1
  nd : (L.map (·.1)).Nodup
section
variable {α : Type} {F : ObIn α} {w W W' : World} {L : List Row} {b : Nat} {a a' : α}
theorem below_one (W : World) : Below W.heap.size W W.drew := ⟨rfl, rfl, rfl, Nat.le_refl _, fun _ _ => rfl⟩
theorem One.keep (hF : KeepsO F) (h : One F w W L b a) (hb : Below W.heap.size W W') : One F w W' L b a := by
  obtain ⟨O, h1, h2, h3⟩ := h.ex
  exact ⟨⟨O, hF.keep h1 (fun j hj => hb.block j (hF.lt h1 j hj)), h2, h3⟩, h.low.trans (hb.mono h.low.size), fun r hr => (h.rows r hr).under hb (h.rows r hr).lt, h.ge, h.nd⟩
theorem One.drew (hF : KeepsO F) (h : One F w W L b a) : One F w W.drew L b a := h.keep hF (below_one W)
/-- A new row of the law's own. -/
theorem One.alloc (hF : KeepsO F) (h : One F w W L b a) (cs : Array Value) (t : TypeId) : One F w (W.alloc (.cells cs t)) ((W.heap.size, cs, t) :: L) b a := by
  have hb : Below W.heap.size W (W.alloc (.cells cs t)) := (Below.refl _ _).alloc (Nat.le_refl _) _
  have hk := h.keep hF hb
  obtain ⟨O, h1, _, h3⟩ := h.ex
  obtain ⟨O', g1, g2, g3⟩ : ∃ O : Nat → Prop, F O (W.alloc (.cells cs t)) b a ∧ (∀ j, O j → w.heap.size ≤ j) ∧ (∀ r ∈ (W.heap.size, cs, t) :: L, ¬ O r.1) := by
    obtain ⟨O, h1, h2, h3⟩ := h.ex
    refine ⟨O, hF.keep h1 (fun j hj => hb.block j (hF.lt h1 j hj)), h2, fun r hr => ?_⟩
    rcases List.mem_cons.1 hr with e | e
    · rw [e]; exact fun ho => by have := hF.lt h1 _ ho; exact absurd this (Nat.lt_irrefl _)
    · exact h3 r e
  refine ⟨⟨O', g1, g2, g3⟩, hk.low, fun r hr => ?_, fun r hr => ?_, ?_⟩
  · rcases List.mem_cons.1 hr with e | e
    · rw [e]; exact Rw.new W cs t
    · exact hk.rows r e
  · rcases List.mem_cons.1 hr with e | e
    · rw [e]; exact h.low.size
    · exact h.ge r e
  · rw [List.map_cons, List.nodup_cons]
    refine ⟨fun hm => ?_, h.nd⟩
    obtain ⟨r, hr, e⟩ := List.mem_map.1 hm
    have h4 := (h.rows r hr).lt
    rw [show r.1 = W.heap.size from e] at h4
    exact absurd h4 (Nat.lt_irrefl _)
/-- Rows that aren't wanted any more. -/
theorem One.sub {L' : List Row} (h : One F w W L b a) (hL : L'.Sublist L) : One F w W L' b a := by
  obtain ⟨O, h1, h2, h3⟩ := h.ex
  exact ⟨⟨O, h1, h2, fun r hr => h3 r (hL.subset hr)⟩, h.low, fun r hr => h.rows r (hL.subset hr), fun r hr => h.ge r (hL.subset hr), h.nd.sublist (hL.map _)⟩
theorem One.tail {r : Row} (h : One F w W (r :: L) b a) : One F w W L b a := h.sub (List.sublist_cons_self _ _)
theorem One.nil (h : One F w W L b a) : One F w W [] b a := h.sub (List.nil_sublist _)
theorem One.swap {x y : Row} (h : One F w W (x :: y :: L) b a) : One F w W (y :: x :: L) b a := by
  obtain ⟨O, h1, h2, h3⟩ := h.ex
  have hm : ∀ r, r ∈ y :: x :: L → r ∈ x :: y :: L := fun r hr => by
    simp only [List.mem_cons] at hr ⊢
    rcases hr with e | e | e
    · exact .inr (.inl e)
    · exact .inl e
    · exact .inr (.inr e)
  refine ⟨⟨O, h1, h2, fun r hr => h3 r (hm r hr)⟩, h.low, fun r hr => h.rows r (hm r hr), fun r hr => h.ge r (hm r hr), ?_⟩
  have hn := h.nd
  simp only [List.map_cons, List.nodup_cons, List.mem_cons, not_or] at hn ⊢
  exact ⟨⟨fun e => hn.1.1 e.symm, hn.2.1⟩, hn.1.2, hn.2.2⟩
/-- The first row is written whole, or at one cell. -/
theorem One.setRow {A : Nat} {old : Array Value} {t : TypeId} (hF : KeepsO F) (h : One F w W ((A, old, t) :: L) b a) (cs : Array Value) : One F w (W.setRow A cs) ((A, cs, t) :: L) b a := by
  obtain ⟨O, h1, h2, h3⟩ := h.ex
  have hA := h.rows _ (List.mem_cons_self ..)
  have hg : w.heap.size ≤ A := h.ge _ (List.mem_cons_self ..)
  have hO : ¬ O A := h3 _ (List.mem_cons_self ..)
  have hn := h.nd
  simp only [List.map_cons, List.nodup_cons] at hn
  refine ⟨⟨O, hF.keep h1 (fun j hj => setRow_block W A j cs (fun e => hO (e ▸ hj))), h2, fun r hr => ?_⟩, below_setRow h.low hg cs, fun r hr => ?_, fun r hr => ?_, ?_⟩
  · rcases List.mem_cons.1 hr with e | e
    · rw [e]; exact hO
    · exact h3 r (List.mem_cons_of_mem _ e)
  · rcases List.mem_cons.1 hr with e | e
    · rw [e]; exact hA.set cs
    · exact (setRow_block W A r.1 cs (fun e2 => hn.1 (List.mem_map.2 ⟨r, e, e2⟩))).trans (h.rows r (List.mem_cons_of_mem _ e))
  · rcases List.mem_cons.1 hr with e | e
    · rw [e]; exact hg
    · exact h.ge r (List.mem_cons_of_mem _ e)
  · simp only [List.map_cons, List.nodup_cons]; exact hn
theorem One.setCell {A : Nat} {old : Array Value} {t : TypeId} (hF : KeepsO F) (h : One F w W ((A, old, t) :: L) b a) (i : Nat) (u : Value) : One F w (W.setCell ⟨A, i, none⟩ u) ((A, old.setIfInBounds i u, t) :: L) b a := by
  obtain ⟨O, h1, h2, h3⟩ := h.ex
  have hA := h.rows _ (List.mem_cons_self ..)
  have hg : w.heap.size ≤ A := h.ge _ (List.mem_cons_self ..)
  have hO : ¬ O A := h3 _ (List.mem_cons_self ..)
  have hn := h.nd
  simp only [List.map_cons, List.nodup_cons] at hn
  have hs : ∀ k, k ≠ A → (W.setCell ⟨A, i, none⟩ u).heap[k]? = W.heap[k]? := fun k hk => Below.heap_setCell W ⟨A, i, none⟩ u k hk
  refine ⟨⟨O, hF.keep h1 (fun j hj => hs j (fun e => hO (e ▸ hj))), h2, fun r hr => ?_⟩, below_setCell h.low hg u, fun r hr => ?_, fun r hr => ?_, ?_⟩
  · rcases List.mem_cons.1 hr with e | e
    · rw [e]; exact hO
    · exact h3 r (List.mem_cons_of_mem _ e)
  · rcases List.mem_cons.1 hr with e | e
    · rw [e]
      unfold Rw at hA ⊢
      simp only at hA ⊢
      simp [World.setCell, Array.getElem?_modify, hA]
    · exact (hs r.1 (fun e2 => hn.1 (List.mem_map.2 ⟨r, e, e2⟩))).trans (h.rows r (List.mem_cons_of_mem _ e))
  · rcases List.mem_cons.1 hr with e | e
    · rw [e]; exact hg
    · exact h.ge r (List.mem_cons_of_mem _ e)
  · simp only [List.map_cons, List.nodup_cons]; exact hn
theorem One.row1 {A : Nat} {cs : Array Value} {t : TypeId} (h : One F w W ((A, cs, t) :: L) b a) : Rw W A cs t := h.rows _ (List.mem_cons_self ..)
theorem One.row2 {A : Nat} {cs : Array Value} {t : TypeId} {x : Row} (h : One F w W (x :: (A, cs, t) :: L) b a) : Rw W A cs t := h.tail.row1
theorem One.row3 {A : Nat} {cs : Array Value} {t : TypeId} {x y : Row} (h : One F w W (x :: y :: (A, cs, t) :: L) b a) : Rw W A cs t := h.tail.row2
theorem One.row4 {A : Nat} {cs : Array Value} {t : TypeId} {x y z : Row} (h : One F w W (x :: y :: z :: (A, cs, t) :: L) b a) : Rw W A cs t := h.tail.row3
/-- A call turned it. -/
theorem One.turn (_hF : KeepsO F) (h : One F w W L b a) {f : FuncId} {args : Array Value} {Pe : Ending → Prop} (hc : ∀ O, F O W b a → Calls Tryz.prog f args W fun e w' => Pe e ∧ TurnO F O W w' b a') : Calls Tryz.prog f args W fun e w' => Pe e ∧ One F w w' L b a' := by
  obtain ⟨O, h1, h2, h3⟩ := h.ex
  refine (hc O h1).mono fun e w' ⟨he, O', g1, g2, g3⟩ => ⟨he, ⟨O', g1, fun j hj => ?_, fun r hr ho => ?_⟩, g3.below h.low h2 h.low.size, fun r hr => (g3.block r.1 (h.rows r hr).lt (h3 r hr)).trans (h.rows r hr), h.ge, h.nd⟩
  · rcases g2 j hj with e | e
    · exact h2 j e
    · exact Nat.le_trans h.low.size e
  · rcases g2 r.1 ho with e | e
    · exact h3 r hr e
    · have := (h.rows r hr).lt; omega
/-- It is read. -/
theorem One.look (hF : KeepsO F) (h : One F w W L b a) {f : FuncId} {args : Array Value} {Pe : Ending → Prop} (hc : ∀ O, F O W b a → Calls Tryz.prog f args W fun e w' => Pe e ∧ Below W.heap.size W w') : Calls Tryz.prog f args W fun e w' => Pe e ∧ One F w w' L b a := by
  obtain ⟨O, h1, _⟩ := h.ex
  exact (hc O h1).mono fun e w' ⟨he, hb⟩ => ⟨he, h.keep hF hb⟩
/-- A call that doesn't meet it. -/
theorem One.aside (hF : KeepsO F) (h : One F w W L b a) {f : FuncId} {args : Array Value} {Pe : Ending → Prop} (hc : Calls Tryz.prog f args W fun e w' => Pe e ∧ Below W.heap.size W w') : Calls Tryz.prog f args W fun e w' => Pe e ∧ One F w w' L b a :=
  hc.mono fun _ _ ⟨he, hb⟩ => ⟨he, h.keep hF hb⟩
theorem NewO.one (h : NewO F W W' b a) (hw : Below w.heap.size w W) : One F w W' [] b a := by
  obtain ⟨O, h1, h2, h3⟩ := h
  exact ⟨⟨O, h1, fun j hj => Nat.le_trans hw.size (h2 j hj), fun r hr => by cases hr⟩, hw.trans (h3.mono hw.size), fun r hr => (by cases hr), fun r hr => (by cases hr), List.nodup_nil⟩
end
end Go.Proofs.YtchaeidmjoelnaaGreat
namespace Go.Proofs.YtchaeidmjoelnaaGreat
open Go.RowKit

/-- What a model tells of itself. -/
def repC (m : Md) : Array Value := #[.int .i64 0, .int .i64 m.s.ph, .int .i64 m.s.ac, .int .i64 m.s.r0, .int .i64 m.s.r1, .int .i64 m.s.w0, .int .i64 m.s.w1, .bool m.s.p0, .bool m.s.p1, .int .i64 m.s.dl, .int .i64 m.s.gn, .int .i64 m.s.sw, .int .i64 m.s.fl, .int .i64 m.ro.slot, .int .i64 m.ro.gen, .int .i64 (m.k.length : Int), .int .i64 (m.l.length : Int), .int .i64 (cntL m.k : Int), .int .i64 (cntL m.l : Int), .bool true, .int .i64 m.tick]
def repV (m : Md) : Value := .agg (repC m)
theorem repC_one (m : Md) : (repC m).all (·.oneCell') = true := by simp [repC, Value.oneCell']
abbrev ptr (b : Nat) : Value := .pointer (some ⟨b, 0, none⟩)
/-- F is how a model of the package lies in memory, in blocks of O; its calls are what the document says. -/
structure PkgOp (F : ObIn Md) : Prop where
  ks : KeepsO F
  op : ∀ {O W b m} (o : Oc), F O W b m → MdI m → FitsO o → Calls Tryz.prog 18 #[ptr b, opV o] W fun e w' => e = .returned (.int .i64 (opM m o).2) ∧ TurnO F O W w' b (opM m o).1
  step : ∀ {O W b m} (n : Nat) (v : Value) (xs : List Int), F O W b m → MdI m → Bd n m.ro m.fu → n + 10 < 100000 → IntsI W v xs → xs.length ≤ 100 → Calls Tryz.prog 19 #[ptr b, v] W fun e w' => e = .returned (.int .i64 (stepM m xs).2) ∧ TurnO F O W w' b (stepM m xs).1
  ready : ∀ {O W b m} (s i : Int) (on : Bool), F O W b m → MdI m → Calls Tryz.prog 20 #[ptr b, .int .i64 s, .int .i64 i, .bool on] W fun e w' => e = .returned (.bool (decide (isW (slotK s m.k m.l) i))) ∧ TurnO F O W w' b (readyM m s i on)
  tick : ∀ {O W b m} (n : Int), F O W b m → MdI m → Fits n → Calls Tryz.prog 38 #[ptr b, .int .i64 n] W fun e w' => e = .returned (.tuple #[]) ∧ TurnO F O W w' b (tickM m n)
  reply : ∀ {O W b m}, F O W b m → MdI m → Calls Tryz.prog 16 #[ptr b] W fun e w' => e = .returned (repV m) ∧ TurnO F O W w' b m
structure PkgMd (F : ObIn Md) : Prop extends PkgOp F where
  new : ∀ (rev n tries : Int) (W : World), Fits rev → Fits n → Fits tries → Calls Tryz.prog 6 #[.int .i64 rev, .int .i64 n, .int .i64 tries] W fun e w' =>
    (rightS (firstS rev n) = true ∧ ∃ b, e = .returned (.tuple #[ptr b, .int .i64 0]) ∧ NewO F W w' b (newM (firstS rev n) tries)) ∨ (rightS (firstS rev n) = false ∧ e = .returned (.tuple #[.pointer none, .int .i64 1]) ∧ Below W.heap.size W w')
/-- What holds of a model, and bounds behind n calls. -/
structure MdN (n : Nat) (m : Md) : Prop where
  inv : MdI m
  bd : Bd n m.ro m.fu
theorem MdN.up {n k : Nat} {m : Md} (h : MdN n m) (hk : n ≤ k) : MdN k m := ⟨h.inv, h.bd.up hk⟩
theorem put_rf (m : Md) (r : Rc) : (putM m r).1.ro = m.ro ∧ (putM m r).1.fu = m.fu := ⟨rfl, rfl⟩
theorem op_rf (m : Md) (o : Oc) : (opM m o).1.ro = m.ro ∧ (opM m o).1.fu = m.fu := by
  unfold opM
  split <;> exact ⟨rfl, rfl⟩
theorem MdN.op {n : Nat} {m : Md} (h : MdN n m) (o : Oc) : MdN n (opM m o).1 := ⟨op_inv h.inv o, by rw [(op_rf m o).1, (op_rf m o).2]; exact h.bd⟩
theorem MdN.ready {n : Nat} {m : Md} (h : MdN n m) (s i : Int) (on : Bool) : MdN n (readyM m s i on) := ⟨ready_inv h.inv s i on, h.bd⟩
theorem MdN.fill {n : Nat} {m : Md} (h : MdN n m) : MdN n (fillM m) := ⟨fill_inv h.inv, h.bd⟩
theorem MdN.tick {n : Nat} {m : Md} (h : MdN n m) (d : Int) : MdN n (tickM m d) := ⟨tick_inv h.inv d, h.bd⟩
theorem mdn_new {rev n tries : Int} (h : rightS (firstS rev n) = true) : MdN 0 (newM (firstS rev n) tries) := ⟨new_inv h, bd0⟩
theorem bd_route {n : Nat} {m : Md} (h : Bd n m.ro m.fu) : Bd (n + 8) (routeM m).1.ro (routeM m).1.fu := by
  have hj := (setJ_is m.s.gn (1 - m.s.ac) m.ro m.fu m.tries).le
  have ht := triesC_in m.tries
  have hb := (bd_st (gen := m.s.gn) (slot := 1 - m.s.ac) h (setJ m.s.gn (1 - m.s.ac) m.ro m.fu m.tries)).up (m := n + 8) (by omega)
  unfold routeM
  split <;> exact hb
theorem bd_go {n : Nat} {m : Md} (hI : SetI m) (h : Bd n m.ro m.fu) : Bd (n + 8) (goM 4 m).1.ro (goM 4 m).1.fu := by
  have h8 := h.up (m := n + 8) (by omega)
  rcases ways hI with ⟨_, e⟩ | ⟨_, _, e⟩ | ⟨_, _, _, e⟩ | ⟨_, e⟩ | ⟨_, _, _, _, e⟩ | ⟨_, _, _, e⟩
  · rw [e]; exact h8
  · rw [e]; exact h8
  · rw [e]; exact h8
  · rw [e]; exact h8
  · rw [e]; exact h8
  · rw [e]; exact bd_route (m := { m with s := comS m.s }) h
theorem MdN.step {n : Nat} {m : Md} (h : MdN n m) {xs : List Int} (hx : xs.length ≤ 100) : MdN (n + 10) (stepM m xs).1 := by
  refine ⟨step_inv h.inv xs, ?_⟩
  unfold stepM
  rw [script_is h.inv.set xs]
  have hb := h.bd.script xs hx
  exact (bd_go (m := { m with ro := { m.ro with outs := m.ro.outs ++ xs } }) (script_inv h.inv xs).set hb).up (by omega)
/-- An act. -/
structure Am where
  kind : Int
  slot : Int
  num : Int
  on : Bool
  op : Oc
  outs : List Int
instance : Inhabited Am := ⟨⟨0, 0, 0, false, ⟨0, 0, 0, 0, false⟩, []⟩⟩
def amC (a : Am) (v : Value) : Array Value := #[.int .i64 a.kind, .int .i64 a.slot, .int .i64 a.num, .bool a.on, .int .i64 a.op.kind, .int .i64 a.op.rev, .int .i64 a.op.cnt, .int .i64 a.op.delay, .bool a.op.pass, v]
structure FitsA (a : Am) : Prop where
  kind : Fits a.kind
  slot : Fits a.slot
  num : Fits a.num
  op : FitsO a.op
  outs : ∀ y ∈ a.outs, Fits y
/-- What it leaves, and tells. -/
def actM (m : Md) (a : Am) : Md × Int :=
  if a.kind = 1 then opM m a.op
  else if a.kind = 2 then stepM m a.outs
  else if a.kind = 3 then (readyM m a.slot a.num a.on, if isW (slotK a.slot m.k m.l) a.num then 1 else 0)
  else if a.kind = 4 then (tickM m a.num, 0)
  else (m, 0)
theorem MdN.act {n : Nat} {m : Md} (h : MdN n m) (a : Am) (ha : a.outs.length ≤ 100) : MdN (n + 10) (actM m a).1 := by
  unfold actM
  split
  · exact (h.op _).up (by omega)
  split
  · exact h.step ha
  split
  · exact (h.ready _ _ _).up (by omega)
  split
  · exact (h.tick _).up (by omega)
  · exact h.up (by omega)
def actsM (m : Md) : List Am → Md
  | [] => m
  | a :: l => actsM (actM m a).1 l
theorem acts_append (m : Md) (l : List Am) (a : Am) : actsM m (l ++ [a]) = (actM (actsM m l) a).1 := by
  induction l generalizing m with
  | nil => rfl
  | cons x l ih => exact ih (actM m x).1
theorem acts_take (m : Md) (l : List Am) (k : Nat) (h : k < l.length) : actsM m (l.take (k + 1)) = (actM (actsM m (l.take k)) l[k]).1 := by
  rw [List.take_succ_eq_append_getElem h, acts_append]
theorem MdN.acts {n : Nat} {m : Md} (h : MdN n m) : ∀ (l : List Am), (∀ a ∈ l, a.outs.length ≤ 100) → MdN (n + 10 * l.length) (actsM m l)
  | [], _ => h
  | a :: l, hl => by
    have := (h.act a (hl a (List.mem_cons_self ..))).acts l (fun x hx => hl x (List.mem_cons_of_mem _ hx))
    exact this.up (by simp only [List.length_cons]; omega)
/-- Acts that came in. -/
def ActsI (W : World) (v : Value) (xs : List Am) : Prop :=
  ((v = .slice none 0 0 ∨ ∃ a c, v = .slice (some a) 0 c) ∧ xs = []) ∨ ∃ b o c, v = .slice (some ⟨b, o, none⟩) xs.length c ∧ 0 < xs.length ∧ xs.length ≤ c ∧ b < W.heap.size ∧ ∀ k (h : k < xs.length), ∃ u, W.rangeAt b (o + k * 10) (amC xs[k] u).toList ∧ IntsI W u xs[k].outs ∧ FitsA xs[k]
theorem ActsI.shape {W : World} {v : Value} {xs : List Am} (h : ActsI W v xs) : ∃ A c, v = .slice A xs.length c := by
  rcases h with ⟨rfl | ⟨a, c, rfl⟩, rfl⟩ | ⟨b, o, c, rfl, _⟩ <;> exact ⟨_, _, rfl⟩
theorem range_under {W W' : World} {b o B : Nat} {cs : List Value} (h : W.rangeAt b o cs) (hb : Below B W W') (hB : b < B) : W'.rangeAt b o cs := fun j v hv => (hb.cell (p := ⟨b, o + j, none⟩) hB).trans (h j v hv)
/-- The k-th of them, in a world that is as it was below. -/
theorem ActsI.kth {w w' : World} {A : Option Addr} {c k : Nat} {xs : List Am} (h : ActsI w (.slice A xs.length c) xs) (hb : Below w.heap.size w w') (hk : k < xs.length) :
    ∃ b o u, A = some ⟨b, o, none⟩ ∧ w'.rangeAt b (o + k * 10) (amC xs[k] u).toList ∧ IntsI w' u xs[k].outs ∧ FitsA xs[k] ∧ b < w.heap.size := by
  rcases h with ⟨_, rfl⟩ | ⟨b, o, c', h1, h2, h3, h4, h5⟩
  · simp at hk
  · injection h1 with h1
    obtain ⟨u, g1, g2, g3⟩ := h5 k hk
    exact ⟨b, o, u, h1, range_under g1 hb h4, g2.under hb (Nat.le_refl _), g3, h4⟩
theorem i10 : (Tryz.prog.info? 42).map (·.size) = some 10 := by kernel_rfl
theorem i21 : (Tryz.prog.info? 59).map (·.size) = some 21 := by kernel_rfl
theorem i5 : (Tryz.prog.info? 39).map (·.size) = some 5 := by kernel_rfl
theorem Rw.range {W : World} {b o : Nat} {cs : Array Value} {t : TypeId} (h : Rw W b cs t) (l : List Value) (hl : ∀ j v, l[j]? = some v → cs[o + j]? = some v) : W.rangeAt b o l := fun j v hv => by rw [h.cell]; exact hl j v hv
section
variable {F : ObIn Md} {w W : World} {L : List Row} {b n : Nat} {m : Md}
theorem one_op (hp : PkgOp F) (h : One F w W L b m) (hI : MdN n m) (o : Oc) (ho : FitsO o) : Calls Tryz.prog 18 #[ptr b, opV o] W fun e w' => e = .returned (.int .i64 (opM m o).2) ∧ One F w w' L b (opM m o).1 := h.turn hp.ks fun _ h1 => hp.op o h1 hI.inv ho
theorem one_step (hp : PkgOp F) (h : One F w W L b m) (hI : MdN n m) {v : Value} {xs : List Int} (hn : n + 10 < 100000) (hv : IntsI W v xs) (hx : xs.length ≤ 100) : Calls Tryz.prog 19 #[ptr b, v] W fun e w' => e = .returned (.int .i64 (stepM m xs).2) ∧ One F w w' L b (stepM m xs).1 := h.turn hp.ks fun _ h1 => hp.step n v xs h1 hI.inv hI.bd hn hv hx
theorem one_ready (hp : PkgOp F) (h : One F w W L b m) (hI : MdN n m) (s i : Int) (on : Bool) : Calls Tryz.prog 20 #[ptr b, .int .i64 s, .int .i64 i, .bool on] W fun e w' => e = .returned (.bool (decide (isW (slotK s m.k m.l) i))) ∧ One F w w' L b (readyM m s i on) := h.turn hp.ks fun _ h1 => hp.ready s i on h1 hI.inv
theorem one_tick (hp : PkgOp F) (h : One F w W L b m) (hI : MdN n m) (d : Int) (hd : Fits d) : Calls Tryz.prog 38 #[ptr b, .int .i64 d] W fun e w' => e = .returned (.tuple #[]) ∧ One F w w' L b (tickM m d) := h.turn hp.ks fun _ h1 => hp.tick d h1 hI.inv hd
theorem one_reply (hp : PkgOp F) (h : One F w W L b m) (hI : MdN n m) : Calls Tryz.prog 16 #[ptr b] W fun e w' => e = .returned (repV m) ∧ One F w w' L b m := h.turn hp.ks fun _ h1 => hp.reply h1 hI.inv
end
end Go.Proofs.YtchaeidmjoelnaaGreat
namespace Go.Proofs.YtchaeidmjoelnaaGreat
open Go.RowKit

/-- A load of a struct in the middle of a block, where the operation is wanted. -/
theorem load_mid {P : Program} {ops : Array Oper} {rest : List Oper} {op : Oper} {a : Act} {w : World} {Q : Exit → Act → World → Prop} (hw : Region.wanted op (yielded ops a.tmps) = true) (ty : TypeId) (x : Operand) (ho : op.op = .load ty x)
    (b o : Nat) (hx : a.eval x = .pointer (some ⟨b, o, none⟩)) (cs : Array Value) (d : TypeDesc) (hc : w.rangeAt b o cs.toList)
    (hu : P.underlying ty = some d) (hd : d.isRow = true) (hi : (P.info? ty).map (·.size) = some cs.size)
    (h : wpList P ops Q rest (a.put op.dst (.agg cs)) w) : wpList P ops Q (op :: rest) a w :=
  wpList_step fun _ hK => by rw [if_pos hw]; exact wp_load_mid ty x ho b o hx cs.toList d hc hu hd (by simpa using hi) (hK _ _ (by simpa using h))
theorem IntsI.shape {W : World} {v : Value} {xs : List Int} (h : IntsI W v xs) : ∃ A c, v = .slice A xs.length c := by
  rcases h with ⟨rfl | ⟨a, c, rfl⟩, rfl⟩ | ⟨b, o, c, rfl, _⟩ <;> exact ⟨_, _, rfl⟩
theorem copy_ints {w : World} {v : Value} {xs : List Int} (h : IntsI w v xs) (hn : xs.length ≤ 100000) :
    ∃ A n c W, (Builtin.append_ #[40, 40] 40 #[.slice (some ⟨w.heap.size, 0, none⟩) 0 0, v]).run Tryz.prog (w.alloc (.cells #[] 3)) = .ok (.slice A n c) W ∧ IntsI W (.slice A n c) xs ∧ Below w.heap.size w W := by
  have ba : Below w.heap.size w (w.alloc (.cells #[] 3)) := (Below.refl _ _).alloc (Nat.le_refl _) _
  obtain ⟨v1, W1, e1, o1, g1⟩ := append_ints (own0 w (Nat.le_refl _)) (h.under ba (Nat.le_refl _)) (Nat.le_of_lt (by simp)) (by simp; omega)
  rw [List.nil_append] at o1
  have b1 := below_grown ba g1 (fun k hk => by simp [Value.ownBlock] at hk; omega) (Nat.le_refl _)
  have hr : IntsI W1 v1 xs := Own.reads (own_base o1)
  obtain ⟨A, c, rfl⟩ := IntsI.shape hr
  exact ⟨A, _, c, W1, e1, hr, b1⟩
section
variable {F : ObIn Md}
set_option maxRecDepth 100000 in
set_option maxHeartbeats 4000000 in
theorem do_c (hp : PkgOp F) {n b : Nat} {m : Md} {L : List Row} {w : World} (kd sl nm : Int) (on : Bool) (op : Oc) (po : List Int) (A' : Option Addr) (c' : Nat) (W : World) (h : One F w W L b m) (hI : MdN n m) (hn : n + 10 < 100000) (hu : IntsI W (.slice A' po.length c') po) (ha : FitsA ⟨kd, sl, nm, on, op, po⟩) (hx : po.length ≤ 100) :
    Calls Tryz.prog 15 #[ptr b, .agg (amC ⟨kd, sl, nm, on, op, po⟩ (.slice A' po.length c'))] W fun e w' => e = .returned (.int .i64 (actM m ⟨kd, sl, nm, on, op, po⟩).2) ∧ One F w w' L b (actM m ⟨kd, sl, nm, on, op, po⟩).1 := by
  obtain ⟨cs, hcs⟩ : ∃ c, c = amC ⟨kd, sl, nm, on, op, po⟩ (.slice A' po.length c') := ⟨_, rfl⟩
  rw [← hcs]
  have HC := Lib.hid hcs
  have HP := Lib.hid hp
  have HI := Lib.hid hI
  have HN := Lib.hid hn
  have HX := Lib.hid hx
  have HA := Lib.hid ha
  have HH := Lib.hid h
  have HU := Lib.hid hu
  clear hcs hI hn hx ha h hu hp
  go_enter Tryz.func15, Tryz.ntmps15
  go_upto_region 1 with (fail)
  obtain ⟨A, hA⟩ : ∃ A, A = W.heap.size := ⟨_, rfl⟩
  rw [← hA]
  refine name_w (fun V => One F w V ((A, cs, 42) :: L) b m ∧ IntsI V (.slice A' po.length c') po) ⟨by rw [hA]; exact HH.out.alloc HP.out.ks cs 42, HU.out.under ((Below.refl _ _).alloc (Nat.le_refl _) _) (Nat.le_refl _)⟩ ?_
  clear hA HH HU
  rintro V ⟨h1, h2⟩
  have hr := h1.row1
  have c0 : V.cell? ⟨A, 0, none⟩ = some (.int .i64 kd) := by rw [hr.cell 0, HC.out]; rfl
  have c1 : V.cell? ⟨A, 1, none⟩ = some (.int .i64 sl) := by rw [hr.cell 1, HC.out]; rfl
  have c2 : V.cell? ⟨A, 2, none⟩ = some (.int .i64 nm) := by rw [hr.cell 2, HC.out]; rfl
  have c3 : V.cell? ⟨A, 3, none⟩ = some (.bool on) := by rw [hr.cell 3, HC.out]; rfl
  have c9 : V.cell? ⟨A, 9, none⟩ = some (.slice A' po.length c') := by rw [hr.cell 9, HC.out]; rfl
  have HG : Hid (V.rangeAt A 4 (opC op).toList) := Lib.hid (hr.range _ (fun j v hv => by
    rw [HC.out]
    match j, hv with
    | 0, hv => exact hv
    | 1, hv => exact hv
    | 2, hv => exact hv
    | 3, hv => exact hv
    | 4, hv => exact hv
    | j + 5, hv => simp [opC] at hv))
  have H1 := Lib.hid h1
  have HU := Lib.hid h2
  clear h1 h2 hr
  by_cases k1 : kd = 1
  case pos =>
    subst k1
    have HE : Hid (actM m ⟨1, sl, nm, on, op, po⟩ = opM m op) := Lib.hid (by rfl)
    go_wp2_with (first | (refine load_mid (by rfl) 39 (.tmp 10) rfl A 4 rfl (opC op) _ HG.out Tryz.underlying39 rfl i5 ?_))
    refine (one_op HP.out H1.out HI.out op HA.out.op).mono ?_
    rintro e V2 ⟨rfl, h2⟩
    have H2 := Lib.hid h2
    clear h2
    go_wp2
    go_ret
    exact ⟨by rw [HE.out]; rfl, by rw [HE.out]; exact H2.out.tail⟩
  have e1 : (kd == 1) = false := beq_eq_false_iff_ne.2 k1
  have K1 := Lib.hid k1
  clear k1 HG
  by_cases k2 : kd = 2
  case pos =>
    subst k2
    have HE : Hid (actM m ⟨2, sl, nm, on, op, po⟩ = stepM m po) := Lib.hid (by rfl)
    obtain ⟨A1, n1, q1, W1, ea, hi1, hb1⟩ := copy_ints HU.out (by have := HX.out; omega)
    have E1 := Lib.hid ea
    have HI1 := Lib.hid hi1
    have H2 := Lib.hid (H1.out.keep HP.out.ks hb1)
    have kA9 : (V.alloc (.cells #[] 3)).cell? ⟨A, 9, none⟩ = some (.slice A' po.length c') := ((below_alloc V (.cells #[] 3)).cell (p := ⟨A, 9, none⟩) H1.out.row1.lt).trans c9
    have bs0 := build0
    clear ea hi1 hb1 H1
    go_wp2_with (first | (at_builtin; refine wpList_append_is rfl (.tmp 16) (.tmp 18) 40 rfl rfl rfl E1.out ?_))
    refine (one_step HP.out H2.out HI.out HN.out HI1.out HX.out).mono ?_
    rintro e V2 ⟨rfl, h2⟩
    have H3 := Lib.hid h2
    clear h2
    go_wp2
    go_ret
    exact ⟨by rw [HE.out]; rfl, by rw [HE.out]; exact H3.out.tail⟩
  have e2 : (kd == 2) = false := beq_eq_false_iff_ne.2 k2
  have K2 := Lib.hid k2
  clear k2 HU c9
  by_cases k3 : kd = 3
  case pos =>
    subst k3
    obtain ⟨v, hv⟩ : ∃ v, v = decide (isW (slotK sl m.k m.l) nm) := ⟨_, rfl⟩
    have HE : Hid (actM m ⟨3, sl, nm, on, op, po⟩ = (readyM m sl nm on, if v = true then 1 else 0)) := Lib.hid (by rw [show actM m ⟨3, sl, nm, on, op, po⟩ = (readyM m sl nm on, if isW (slotK sl m.k m.l) nm then 1 else 0) from rfl, hv]; simp only [decide_eq_true_eq])
    have HR := Lib.hid (one_ready HP.out H1.out HI.out sl nm on)
    rw [← hv] at HR
    clear hv
    go_wp2_with fail
    refine HR.out.mono ?_
    rintro e V2 ⟨rfl, h2⟩
    have H2 := Lib.hid h2
    clear h2
    cases v with
    | true =>
      go_wp2
      go_ret
      exact ⟨by rw [HE.out]; rfl, by rw [HE.out]; exact H2.out.tail⟩
    | false =>
      go_wp2
      go_ret
      exact ⟨by rw [HE.out]; rfl, by rw [HE.out]; exact H2.out.tail⟩
  have e3 : (kd == 3) = false := beq_eq_false_iff_ne.2 k3
  have K3 := Lib.hid k3
  clear k3
  by_cases k4 : kd = 4
  case pos =>
    subst k4
    have HE : Hid (actM m ⟨4, sl, nm, on, op, po⟩ = (tickM m nm, 0)) := Lib.hid (by rfl)
    go_wp2_with fail
    refine (one_tick HP.out H1.out HI.out nm HA.out.num).mono ?_
    rintro e V2 ⟨rfl, h2⟩
    have H2 := Lib.hid h2
    clear h2
    go_wp2
    go_ret
    exact ⟨by rw [HE.out]; rfl, by rw [HE.out]; exact H2.out.tail⟩
  have e4 : (kd == 4) = false := beq_eq_false_iff_ne.2 k4
  have HE : Hid (actM m ⟨kd, sl, nm, on, op, po⟩ = (m, 0)) := Lib.hid (by unfold actM; rw [if_neg K1.out, if_neg K2.out, if_neg K3.out, if_neg k4])
  clear k4
  go_wp2
  go_ret
  exact ⟨by rw [HE.out]; rfl, by rw [HE.out]; exact H1.out.tail⟩
theorem do_any (hp : PkgOp F) {n b : Nat} {m : Md} {L : List Row} {w W : World} (a : Am) (u : Value) (h : One F w W L b m) (hI : MdN n m) (hn : n + 10 < 100000) (hu : IntsI W u a.outs) (ha : FitsA a) (hx : a.outs.length ≤ 100) :
    Calls Tryz.prog 15 #[ptr b, .agg (amC a u)] W fun e w' => e = .returned (.int .i64 (actM m a).2) ∧ One F w w' L b (actM m a).1 := by
  obtain ⟨kd, sl, nm, on, op, po⟩ := a
  obtain ⟨A', c', rfl⟩ := IntsI.shape hu
  exact do_c hp kd sl nm on op po A' c' W h hI hn hu ha hx
/-- Behind j of slot sl's. -/
def fillAt (m : Md) (sl j : Nat) : Md := if sl = 0 then { m with k := fillTo m.k j } else { m with k := fillL m.k, l := fillTo m.l j }
theorem fillAt_ready {m : Md} (sl j : Nat) (hs : sl < 2) : readyM (fillAt m sl j) sl j true = fillAt m sl (j + 1) := by
  unfold fillAt readyM
  by_cases h : sl = 0
  · subst h
    rw [if_pos rfl, if_pos rfl]
    show { m with k := rdA _ _ _ _, l := rdB _ _ _ _ } = _
    rfl
  · obtain rfl : sl = 1 := by omega
    rfl
theorem fillAt_next {m : Md} (h : MdI m) : fillAt m 0 40 = fillAt m 1 0 ∧ fillAt m 1 40 = fillM m := by
  have hw := right_w h.right
  have h1 := h.lk
  have h2 := h.ll
  unfold fillAt fillM
  rw [if_pos rfl, if_neg (by decide), if_neg (by decide), fillTo_all m.k 40 (by omega), fillTo_all m.l 40 (by omega)]
  exact ⟨rfl, rfl⟩
theorem fillAt_inv {n : Nat} {m : Md} (h : MdN n m) (sl : Nat) (hs : sl < 2) : ∀ j, MdN n (fillAt m sl j)
  | 0 => by
    unfold fillAt
    split
    · exact h
    · exact ⟨⟨h.inv.right, by show ((fillL m.k).length : Int) = _; rw [fillL_len]; exact h.inv.lk, h.inv.ll, h.inv.tick, h.inv.fuse, h.inv.gen, h.inv.cell⟩, h.bd⟩
  | j + 1 => by rw [← fillAt_ready sl j hs]; exact (fillAt_inv h sl hs j).ready _ _ _
end
end Go.Proofs.YtchaeidmjoelnaaGreat
namespace Go.Proofs.YtchaeidmjoelnaaGreat
open Go.RowKit

theorem c27e : Tryz.prog.cellsOf 27 = 1 := by kernel_rfl
theorem c40 : Tryz.prog.cellsOf 55 = 2 := by kernel_rfl
theorem c42 : Tryz.prog.cellsOf 57 = 4 := by kernel_rfl
theorem c44 : Tryz.prog.cellsOf 59 = 21 := by kernel_rfl
theorem kl27 (d : Nat) {a : Int} (h : Fits a) : Tryz.prog.keyLits (d + 1) 27 [.int .i64 a] = some [.int .i64 a] := by
  simp [Program.keyLits, Tryz.underlying27, wfI_of h]
theorem kl40 (d : Nat) {a b : Int} (ha : Fits a) (hb : Fits b) : Tryz.prog.keyLits (d + 2) 55 [.int .i64 a, .int .i64 b] = some [.int .i64 a, .int .i64 b] := by
  unfold Program.keyLits
  simp only [Tryz.underlying55]
  simp [c40, c3, kl3 d ha, kl3 d hb]
theorem kl42 (d : Nat) {a b c e : Int} (ha : Fits a) (hb : Fits b) (hc : Fits c) (he : Fits e) : Tryz.prog.keyLits (d + 3) 57 [.int .i64 a, .int .i64 b, .int .i64 c, .int .i64 e] = some [.int .i64 a, .int .i64 b, .int .i64 c, .int .i64 e] := by
  unfold Program.keyLits
  simp only [Tryz.underlying57]
  simp [c42, c22, kl22 d ha hb, kl22 d hc he]
structure FitsM (m : Md) : Prop where
  s : FitsS m.s
  slot : Fits m.ro.slot
  gen : Fits m.ro.gen
  k : Fits (m.k.length : Int)
  l : Fits (m.l.length : Int)
  ck : Fits (cntL m.k : Int)
  cl : Fits (cntL m.l : Int)
  tick : Fits m.tick
def repL (m : Md) : List Lit := [.int .i64 0] ++ stL m.s ++ [.int .i64 m.ro.slot, .int .i64 m.ro.gen, .int .i64 (m.k.length : Int), .int .i64 (m.l.length : Int), .int .i64 (cntL m.k : Int), .int .i64 (cntL m.l : Int), .bool true, .int .i64 m.tick]
theorem f0 : Fits 0 := by unfold Fits; omega
set_option maxRecDepth 100000 in
theorem kl44 (d : Nat) {m : Md} (h : FitsM m) : Tryz.prog.keyLits (d + 4) 59 (repC m).toList = some (repL m) := by
  have hs := kl25 d h.s
  simp only [stC] at hs
  unfold Program.keyLits
  simp only [Tryz.underlying59]
  simp [repC, c44, c27e, c25, c40, c42, c4, c3, kl27 (d + 2) f0, hs, kl40 (d + 1) h.slot h.gen, kl42 d h.k h.l h.ck h.cl, kl4 (d + 2), kl3 (d + 2) h.tick]
  rfl
theorem kt44 : Tryz.prog.keyTypeAt 10 59 = true := by kernel_rfl
/-- A reply is equal to itself. -/
theorem eq44 {m : Md} (h : FitsM m) (w : World) : (Op.equalIn 10000 59 (.agg (repC m)) (.agg (repC m))).run Tryz.prog w = .ok true w := by
  obtain ⟨r, hr, hi⟩ := run_equalIn_deep 9990 10 59 kt44 w 4 4 (.agg (repC m)) (.agg (repC m)) _ _ (by kernel_rfl) (by kernel_rfl) (kl44 0 h) (kl44 0 h)
  rw [hr, hi.2 rfl]
theorem MdI.fits {m : Md} (h : MdI m) : FitsM m := by
  have hr := right_in h.right
  have hw := right_w h.right
  have h1 := h.lk
  have h2 := h.ll
  have h3 := h.tick
  have h4 := h.gen
  have h5 := h.cell
  have h6 := cnt_le m.k
  have h7 := cnt_le m.l
  exact ⟨right_fits h.right, by unfold Fits; omega, by unfold Fits; omega, by unfold Fits; omega, by unfold Fits; omega, by unfold Fits; omega, by unfold Fits; omega, by unfold Fits; omega⟩
/-! great -/
def greatB (xs : List Am) : Bool := decide (80 < xs.length) || xs.any fun a => decide (50 < a.outs.length)
theorem great_no {xs : List Am} (h : greatB xs = false) : xs.length ≤ 80 ∧ ∀ a ∈ xs, a.outs.length ≤ 50 := by
  unfold greatB at h
  simp only [Bool.or_eq_false_iff, decide_eq_false_iff_not, List.any_eq_false, decide_eq_true_eq] at h
  exact ⟨by omega, fun a ha => by have := h.2 a ha; omega⟩
theorem great_long {xs : List Am} (h : 80 < xs.length) : greatB xs = true := by
  unfold greatB
  rw [decide_eq_true h]
  rfl
theorem great_one {xs : List Am} {k : Nat} (hk : k < xs.length) (h : 50 < xs[k].outs.length) : greatB xs = true := by
  unfold greatB
  rw [Bool.or_eq_true]
  exact .inr (List.any_eq_true.2 ⟨xs[k], List.getElem_mem hk, decide_eq_true h⟩)
theorem great_none {xs : List Am} (h : ¬ 80 < xs.length) (hk : ∀ k (h : k < xs.length), ¬ 50 < xs[k].outs.length) : greatB xs = false := by
  unfold greatB
  rw [decide_eq_false h, Bool.false_or, List.any_eq_false]
  intro a ha
  obtain ⟨k, hk1, rfl⟩ := List.getElem_of_mem ha
  simpa using hk k hk1
theorem ActsI.under {W W' : World} {v : Value} {xs : List Am} (h : ActsI W v xs) (hb : Below W.heap.size W W') : ActsI W' v xs := by
  rcases h with h | ⟨b, o, c, h1, h2, h3, h4, h5⟩
  · exact .inl h
  · exact .inr ⟨b, o, c, h1, h2, h3, Nat.lt_of_lt_of_le h4 hb.size, fun k hk => by
      obtain ⟨u, g1, g2, g3⟩ := h5 k hk
      exact ⟨u, range_under g1 hb h4, g2.under hb (Nat.le_refl _), g3⟩⟩
theorem amC_one (a : Am) (A : Option Addr) (n c : Nat) : (amC a (.slice A n c)).all (·.oneCell') = true := by simp [amC, Value.oneCell']
def zeroAC : Array Value := amC ⟨0, 0, 0, false, ⟨0, 0, 0, 0, false⟩, []⟩ (.slice none 0 0)
set_option maxRecDepth 100000 in
set_option maxHeartbeats 4000000 in
theorem great_any (v : Value) (xs : List Am) (w : World) (h : ActsI w v xs) : Calls Tryz.prog 5 #[v] w fun e w' => e = .returned (.bool (greatB xs)) ∧ Below w.heap.size w w' := by
  obtain ⟨A, c, rfl⟩ := h.shape
  have HX := Lib.hid h
  clear h
  by_cases h80 : 80 < xs.length
  case pos =>
    have e1 : decide ((80 : Int) < (xs.length : Int)) = true := by simp; omega
    have e2 : decide (80 < xs.length) = true := decide_eq_true h80
    have HE := Lib.hid (great_long h80)
    clear h80
    go_enter Tryz.func5, Tryz.ntmps5
    go_wp2
    go_ret
    exact ⟨by rw [HE.out]; rfl, Below.refl _ _⟩
  have e1 : decide ((80 : Int) < (xs.length : Int)) = false := by simp; omega
  have e2 : decide (80 < xs.length) = false := decide_eq_false h80
  have HL : Hid (¬ 80 < xs.length) := Lib.hid h80
  clear h80
  go_enter Tryz.func5, Tryz.ntmps5
  go_wp2
  clear e1 e2
  go_loopg [10] xs.length (fun m' iv wr => ∃ k : Nat, Hid (m' = xs.length - k) ∧ k ≤ xs.length ∧ iv = .int .i64 (k : Int) ∧ Hid (∀ j (hj : j < xs.length), j < k → ¬ 50 < xs[j].outs.length) ∧ Hid (Below w.heap.size w wr))
  case atStart => exact ⟨0, Lib.hid rfl, Nat.zero_le _, rfl, Lib.hid (fun j _ hj => by omega), Lib.hid (Below.refl _ _)⟩
  case round =>
    obtain ⟨k, HG, hk, rfl, HP, HB⟩ := hrel
    by_cases hlt : k < xs.length
    case pos =>
      have HK := Lib.hid hlt
      have d1 : decide ((k : Int) < (xs.length : Int)) = true := by simp; omega
      have d2 : decide (k < xs.length) = true := decide_eq_true hlt
      have HL8 : Hid (k < 80) := Lib.hid (by have := HL.out; omega)
      have hk8 : k < 80 := HL8.out
      obtain ⟨bb, oo, u, hA, hrg, hui, hfa, hbl⟩ := HX.out.kth HB.out hlt
      subst hA
      obtain ⟨A', c', hu⟩ := IntsI.shape hui
      obtain ⟨cs, hcs⟩ : ∃ c, c = amC xs[k] u := ⟨_, rfl⟩
      have HRG : Hid (wr.rangeAt bb (oo + k * 10) cs.toList) := Lib.hid (by rw [hcs]; exact hrg)
      rw [hu] at hcs
      have HZC : Hid (cs.size = 10) := Lib.hid (by rw [hcs]; rfl)
      have H1C : Hid (cs.all (·.oneCell') = true) := Lib.hid (by rw [hcs]; exact amC_one _ _ _ _)
      have HC : Hid (cs[9]? = some (.slice A' xs[k].outs.length c')) := Lib.hid (by rw [hcs]; rfl)
      obtain ⟨n, hn⟩ : ∃ n, n = xs[k].outs.length := ⟨_, rfl⟩
      rw [← hn] at HC
      have HN := Lib.hid hn
      clear hrg hui hfa hcs hn hbl hu hlt
      go_upto_region 6 with (first | (refine load_mid (by rfl) 42 (.tmp 12) rfl bb (oo + k * 10) rfl cs _ HRG.out Tryz.underlying42 rfl (by rw [HZC.out]; exact i10) ?_) | (refine wpList_plain rfl fun _ hK => wp_store_row 42 (.tmp 4) (.tmp 13) rfl wr.heap.size cs rfl rfl 42 _ (Rw.new wr _ 42) (by rw [HZC.out]; exact i10) (by rw [HZC.out]; rfl) H1C.out (hK _ _ ?_); clear hK))
      obtain ⟨X, hX⟩ : ∃ X, X = wr.heap.size := ⟨_, rfl⟩
      rw [← hX]
      refine name_w (fun V => Rw V X cs 42 ∧ Below w.heap.size w V) ?_ ?_
      · have ba := (Below.refl wr.heap.size wr).alloc (Nat.le_refl _) (.cells zeroAC 42)
        have bb := below_setRow ba (Nat.le_refl _) (b := wr.heap.size) cs
        rw [hX]
        exact ⟨(Rw.new wr _ 42).set cs, HB.out.trans (bb.mono HB.out.size)⟩
      clear hX HB HRG
      rintro V ⟨h1, h2⟩
      have HB := Lib.hid h2
      have x9 : V.cell? ⟨X, 9, none⟩ = some (.slice A' n c') := by rw [h1.cell 9]; exact HC.out
      clear h1 h2
      by_cases h50 : 50 < n
      case pos =>
        have g1 : decide ((50 : Int) < (n : Int)) = true := by simp; omega
        have g2 : decide (50 < n) = true := decide_eq_true h50
        have HE := Lib.hid (great_one HK.out (by have h := h50; rw [HN.out] at h; exact h))
        clear h50
        go_wp2
        go_ret
        exact ⟨by rw [HE.out]; rfl, HB.out⟩
      have g1 : decide ((50 : Int) < (n : Int)) = false := by simp; omega
      have g2 : decide (50 < n) = false := decide_eq_false h50
      have HF := Lib.hid h50
      clear h50
      go_wp2
      go_roundg (xs.length - (k + 1))
      case measure => have := HG.out; have := HK.out; omega
      case rel => exact ⟨k + 1, Lib.hid rfl, HK.out, by go_num, Lib.hid (fun j hj h => by
        by_cases e : j = k
        · subst e; have h := HF.out; rw [HN.out] at h; exact h
        · exact HP.out j hj (by omega)), HB⟩
    case neg =>
      have d1 : decide ((k : Int) < (xs.length : Int)) = false := by simp; omega
      have d2 : decide (k < xs.length) = false := decide_eq_false hlt
      have HE := Lib.hid (great_none HL.out (fun j hj => HP.out j hj (by omega)))
      clear hlt hk
      go_wp2
      go_ret
      exact ⟨by rw [HE.out]; rfl, HB.out⟩
/-! awake -/
theorem new_yes {F : ObIn Md} (hp : PkgMd F) {rev n tries : Int} (W : World) (h : rightS (firstS rev n) = true) (h1 : Fits rev) (h2 : Fits n) (h3 : Fits tries) : Calls Tryz.prog 6 #[.int .i64 rev, .int .i64 n, .int .i64 tries] W fun e w' => ∃ b, e = .returned (.tuple #[ptr b, .int .i64 0]) ∧ NewO F W w' b (newM (firstS rev n) tries) :=
  (hp.new rev n tries W h1 h2 h3).mono fun e w' h4 => by
    rcases h4 with ⟨_, h5⟩ | ⟨h5, _⟩
    · exact h5
    · rw [h] at h5; cases h5
theorem new_no {F : ObIn Md} (hp : PkgMd F) {rev n tries : Int} (W : World) (h : rightS (firstS rev n) = false) (h1 : Fits rev) (h2 : Fits n) (h3 : Fits tries) : Calls Tryz.prog 6 #[.int .i64 rev, .int .i64 n, .int .i64 tries] W fun e w' => e = .returned (.tuple #[.pointer none, .int .i64 1]) ∧ Below W.heap.size W w' :=
  (hp.new rev n tries W h1 h2 h3).mono fun e w' h4 => by
    rcases h4 with ⟨h5, _⟩ | ⟨_, h5⟩
    · rw [h] at h5; cases h5
    · exact h5
def a0 : Md := newM (firstS 1 2) 3
def a1 : Md := (opM a0 ⟨1, 2, 1, 0, false⟩).1
def a2 : Md := (stepM a1 []).1
def a3 : Md := readyM a2 1 0 true
def a4 : Md := (stepM a3 []).1
def a5 : Md := (opM a4 ⟨4, 2, 0, 0, true⟩).1
def a6 : Md := (stepM a5 [2, 1]).1
theorem ok1 : (opM a0 ⟨1, 2, 1, 0, false⟩).2 = 0 := by kernel_rfl
theorem ok3 : decide (isW (slotK 1 a2.k a2.l) 0) = true := by kernel_rfl
theorem ok4 : (stepM a3 []).2 = 0 := by kernel_rfl
theorem ok5 : (opM a4 ⟨4, 2, 0, 0, true⟩).2 = 0 := by kernel_rfl
theorem ok6 : (stepM a5 [2, 1]).2 = 0 := by kernel_rfl
theorem ok7 : (opM a6 ⟨4, 2, 0, 0, false⟩).2 = 7 := by kernel_rfl
theorem ok8 : a6.ro.slot = 1 ∧ a6.ro.gen = 1 ∧ a6.s.ph = 4 ∧ a6.s.ac = 1 := ⟨by kernel_rfl, by kernel_rfl, by kernel_rfl, by kernel_rfl⟩
theorem rs12 : rightS (firstS 1 2) = true := by kernel_rfl
theorem rs02 : rightS (firstS 0 2) = false := by kernel_rfl
theorem ints_nil (W : World) : IntsI W (.slice none 0 0) [] := .inl ⟨.inl rfl, rfl⟩
theorem ints_two {W : World} {X : Nat} (h : Rw W X #[.int .i64 2, .int .i64 1] 3) : IntsI W (.slice (some ⟨X, 0, none⟩) 2 2) [2, 1] :=
  .inr ⟨X, 0, 2, rfl, by decide, by decide, h.lt, fun k hk => by
    match k, hk with
    | 0, _ => rw [h.cell]; rfl
    | 1, _ => rw [h.cell]; rfl
    | k + 2, hk => simp at hk; omega⟩
theorem fin (a : Int) (h : -100 ≤ a ∧ a ≤ 100) : Fits a := by unfold Fits; omega
theorem fo (k r c d : Int) (p : Bool) (h : (-100 ≤ k ∧ k ≤ 100) ∧ (-100 ≤ r ∧ r ≤ 100) ∧ (-100 ≤ c ∧ c ≤ 100) ∧ (-100 ≤ d ∧ d ≤ 100)) : FitsO ⟨k, r, c, d, p⟩ := ⟨fin _ h.1, fin _ h.2.1, fin _ h.2.2.1, fin _ h.2.2.2⟩
set_option maxRecDepth 100000 in
set_option maxHeartbeats 4000000 in
theorem awake_any {F : ObIn Md} (hp : PkgMd F) (w : World) : Calls Tryz.prog 4 #[] w fun e w' => e = .returned (.bool true) ∧ Below w.heap.size w w' := by
  have HP := Lib.hid hp
  have N0 : Hid (MdN 0 a0) := Lib.hid (mdn_new rs12)
  have N1 : Hid (MdN 0 a1) := Lib.hid (N0.out.op _)
  have N2 : Hid (MdN 10 a2) := Lib.hid (N1.out.step (by decide))
  have N3 : Hid (MdN 10 a3) := Lib.hid (N2.out.ready _ _ _)
  have N4 : Hid (MdN 20 a4) := Lib.hid (N3.out.step (by decide))
  have N5 : Hid (MdN 20 a5) := Lib.hid (N4.out.op _)
  have N6 : Hid (MdN 30 a6) := Lib.hid (N5.out.step (by decide))
  clear hp
  go_enter Tryz.func4, Tryz.ntmps4
  go_wp2_with fail
  refine (new_yes HP.out w rs12 (fin _ (by omega)) (fin _ (by omega)) (fin _ (by omega))).mono ?_
  rintro e w1 ⟨b, rfl, h⟩
  have H1 : Hid (One F w w1 [] b a0) := Lib.hid (h.one (Below.refl _ _))
  clear h
  go_wp2_with fail
  refine (H1.out.aside HP.out.ks (new_no HP.out w1 rs02 (fin _ (by omega)) (fin _ (by omega)) (fin _ (by omega)))).mono ?_
  rintro e w2 ⟨rfl, h⟩
  have H2 := Lib.hid h
  clear h H1
  go_wp2_with fail
  have hc := one_op HP.out.toPkgOp H2.out N0.out ⟨1, 2, 1, 0, false⟩ (fo _ _ _ _ _ (by omega))
  rw [ok1] at hc
  refine hc.mono ?_
  rintro e w3 ⟨rfl, h⟩
  have H3 : Hid (One F w w3 [] b a1) := Lib.hid h
  clear h hc H2
  go_wp2_with fail
  have hc := one_step HP.out.toPkgOp H3.out N1.out (by decide) (ints_nil _) (by decide)
  skip
  refine hc.mono ?_
  rintro e w4 ⟨rfl, h⟩
  have H4 : Hid (One F w w4 [] b a2) := Lib.hid h
  clear h hc H3
  go_wp2_with fail
  have hc := one_ready HP.out.toPkgOp H4.out N2.out 1 0 true
  rw [ok3] at hc
  refine hc.mono ?_
  rintro e w5 ⟨rfl, h⟩
  have H5 : Hid (One F w w5 [] b a3) := Lib.hid h
  clear h hc H4
  go_wp2_with fail
  have hc := one_step HP.out.toPkgOp H5.out N3.out (by decide) (ints_nil _) (by decide)
  rw [ok4] at hc
  refine hc.mono ?_
  rintro e w6 ⟨rfl, h⟩
  have H6 : Hid (One F w w6 [] b a4) := Lib.hid h
  clear h hc H5
  go_wp2_with fail
  have hc := one_op HP.out.toPkgOp H6.out N4.out ⟨4, 2, 0, 0, true⟩ (fo _ _ _ _ _ (by omega))
  rw [ok5] at hc
  refine hc.mono ?_
  rintro e w7 ⟨rfl, h⟩
  have H7 : Hid (One F w w7 [] b a5) := Lib.hid h
  clear h hc H6
  go_wp2_with fail
  have h8 := H7.out.alloc HP.out.ks #[.int .i64 2, .int .i64 1] 3
  obtain ⟨X, hX⟩ : ∃ X, X = w7.heap.size := ⟨_, rfl⟩
  rw [← hX] at h8 ⊢
  have HC8 := one_step HP.out.toPkgOp h8 N5.out (by decide) (ints_two h8.row1) (by decide)
  rw [ok6] at HC8
  refine HC8.mono ?_
  rintro e w8 ⟨rfl, h⟩
  have H8 : Hid (One F w w8 [] b a6) := Lib.hid h.nil
  clear h h8 hX HC8 H7
  go_wp2_with fail
  obtain ⟨cs, hcs⟩ : ∃ c, c = repC a6 := ⟨_, rfl⟩
  have HC9 : Calls Tryz.prog 16 #[.pointer (some ⟨b, 0, none⟩)] w8 fun e w' => e = .returned (.agg cs) ∧ One F w w' [] b a6 := by
    rw [hcs]
    exact one_reply HP.out.toPkgOp H8.out N6.out
  have HC := Lib.hid hcs
  have HZC : Hid (cs.size = 21) := Lib.hid (by rw [hcs]; rfl)
  have H1C : Hid (cs.all (·.oneCell') = true) := Lib.hid (by rw [hcs]; exact repC_one _)
  clear hcs
  refine HC9.mono ?_
  rintro e w9 ⟨rfl, h⟩
  have H9 := Lib.hid h
  clear h HC9 H8
  go_upto_region 12 with (first | (refine wpList_plain rfl fun _ hK => wp_store_row 59 (.tmp 10) (.tmp 45) rfl w9.heap.size cs rfl rfl 59 _ (Rw.new w9 _ 59) (by rw [HZC.out]; exact i21) (by rw [HZC.out]; rfl) H1C.out (hK _ _ ?_); clear hK))
  obtain ⟨X, hX⟩ : ∃ X, X = w9.heap.size := ⟨_, rfl⟩
  rw [← hX]
  refine name_w (fun V => One F w V [(X, cs, 59)] b a6) (by rw [hX]; exact (H9.out.alloc HP.out.ks _ 59).setRow HP.out.ks cs) ?_
  clear hX H9
  rintro V h
  have hr := h.row1
  have hv := ok8
  have H10 := Lib.hid h
  have x1 : V.cell? ⟨X, 1, none⟩ = some (.int .i64 4) := by rw [hr.cell, HC.out, ← hv.2.2.1]; rfl
  have x2 : V.cell? ⟨X, 2, none⟩ = some (.int .i64 1) := by rw [hr.cell, HC.out, ← hv.2.2.2]; rfl
  have x19 : V.cell? ⟨X, 19, none⟩ = some (.bool true) := by rw [hr.cell, HC.out]; rfl
  have HG : Hid (V.rangeAt X 13 (#[.int .i64 1, .int .i64 1] : Array Value).toList) := Lib.hid (hr.range _ (fun j v hj => by
    rw [HC.out]
    match j, hj with
    | 0, hj => rw [← hj]; show some (Value.int .i64 a6.ro.slot) = _; rw [hv.1]; rfl
    | 1, hj => rw [← hj]; show some (Value.int .i64 a6.ro.gen) = _; rw [hv.2.1]; rfl
    | j + 2, hj => simp at hj))
  have hq := eq34 1 1 1 1
  clear h hr hv
  go_wp2_with (first | (refine load_mid (by rfl) 55 (.tmp 64) rfl X 13 rfl #[.int .i64 1, .int .i64 1] _ HG.out Tryz.underlying55 rfl i34 ?_))
  have HC11 := one_op HP.out.toPkgOp H10.out N6.out ⟨4, 2, 0, 0, false⟩ (fo _ _ _ _ _ (by omega))
  rw [ok7] at HC11
  refine HC11.mono ?_
  rintro e w11 ⟨rfl, h⟩
  have H11 := Lib.hid h.low
  clear h HC11 H10
  go_wp2
  go_ret
  exact ⟨rfl, H11.out⟩
end Go.Proofs.YtchaeidmjoelnaaGreat
namespace Go.Proofs.YtchaeidmjoelnaaGreat
open Go.ChangeShapes Go.WideShapes Go.ChangeAt Go.RowKit

theorem t_own : ownKnob Tryz.prog.godebug = none := by kernel_rfl
theorem t_laidOut : laidOutB Tryz.prog = true := by kernel_rfl

/-- All arguments read behind the call as they did. -/
theorem trodAll_under {H : Type} {enc : TypeId × Value → H} {W W' : World} (hb : Below W.heap.size W W') : ∀ (ts : List TypeId) (vs : List Value) (ds : List (DataW H)) (ps : List MemPlace),
    (∀ t ∈ ts, Tryz.prog.readableRec t = true ∧ t < Tryz.prog.types.size) → DataW.TrodAll enc Tryz.prog W 0 (fun _ => true) true ts vs ds ps → (∀ x ∈ ps, x.block < W.heap.size) →
    DataW.TrodAll enc Tryz.prog W' 0 (fun b => decide (b < W.heap.size)) true ts vs ds ps
  | [], vs, ds, ps, _, h, _ => by
    obtain ⟨rfl, rfl, rfl⟩ := trodAll_nil h
    exact trodAll_mk0
  | t :: ts, vs, ds, ps, ht, h, hp => by
    obtain ⟨v0, vs0, d0, ds0, p0, q0, rfl, rfl, rfl, h0, r0⟩ := trodAll_cons h
    obtain ⟨hr, hrow⟩ := ht t (List.mem_cons_self ..)
    exact trodAll_cons_mk (Below.trod t_laidOut hr hrow h0 hb fun x hx => hp x (List.mem_append_left _ hx))
      (trodAll_under hb ts vs0 ds0 q0 (fun t' h' => ht t' (List.mem_cons_of_mem _ h')) r0 fun x hx => hp x (List.mem_append_right _ hx))

theorem t_size : 45 < Tryz.prog.types.size := of_decide_eq_true (by kernel_rfl)
theorem params_ok (t : Nat) (h : t = 3 ∨ t = 4 ∨ t = 22 ∨ t = 23 ∨ t = 40) : Tryz.prog.readableRec t = true ∧ t < Tryz.prog.types.size := by
  have := t_size
  rcases h with rfl | rfl | rfl | rfl | rfl <;> exact ⟨by kernel_rfl, by omega⟩

/-- What a law leaves: true, all that was there as it was. -/
def Holds (w : World) (e : Ending) (w' : World) : Prop := e = .returned (.bool true) ∧ Below w.heap.size w w'

/-- A law's post out of its walk. -/
theorem post_of_holds {H : Type} {enc : TypeId × Value → H} {f : Func} {s : ChangeSpec} {W W' : World} {args : Array Value} {ds gs : List (DataW H)} {before : List MemPlace}
    (hW : DataW.Whole enc Tryz.prog f.params.toList s.vars false W args.toList ds gs before) (hr : f.resultTypes = #[4]) (hv : s.vars = [])
    (hp : ∀ t ∈ f.params.toList, Tryz.prog.readableRec t = true ∧ t < Tryz.prog.types.size)
    (hfn : (s.fn H ds).results = [.lit (.bool true)] ∧ (s.fn H ds).args = ds ∧ (s.fn H ds).vars = []) (hb : Below W.heap.size W W') :
    s.post enc Tryz.prog f false true false false W args (.bool true) W' := by
  have hW' := hW
  obtain ⟨p, q, hA, hV, rfl, _, _⟩ := hW
  rw [hv] at hV
  obtain ⟨rfl, rfl⟩ : gs = [] ∧ q = [] := by
    cases gs with
    | nil => exact ⟨rfl, hV⟩
    | cons g r => exact absurd hV (by intro h; cases h)
  obtain ⟨h1, h2, h3⟩ := hfn
  refine ⟨_, _, _, [], p, [], hW', ?_, ?_, ?_, hb.frame _, fun h => by cases h⟩
  · rw [List.append_nil, h1, hr]; exact trodAll_mk1 (shut_bool Tryz.underlying4 true)
  · rw [List.append_nil, h2]
    exact trodAll_under hb _ _ _ _ hp hA fun x hx => by simpa using hW'.lt x (by simpa using hx)
  · rw [List.append_nil, h3, hv]; rfl

section
variable {H : Type} {enc : TypeId × Value → H} {W : World} {sp : Nat → Bool} {hd : Bool} {n : Nat}
theorem oneI {v : Value} {x : DataW H × List MemPlace} (h : DataW.trod enc Tryz.prog W 0 sp hd n 3 [v] = some x) : ∃ a, v = .int .i64 a ∧ Fits a := by
  obtain ⟨a, h1, _, h2⟩ := DataW.trod_int Tryz.underlying3 h
  exact ⟨a, by simpa using h1, bounds_i64 h2⟩
theorem oneB {v : Value} {x : DataW H × List MemPlace} (h : DataW.trod enc Tryz.prog W 0 sp hd n 4 [v] = some x) : ∃ a, v = .bool a := by
  obtain ⟨a, h1, _⟩ := DataW.trod_bool Tryz.underlying4 h
  exact ⟨a, by simpa using h1⟩
theorem two_ints {u v : Value} {x : DataW H × List MemPlace} (h : DataW.trod enc Tryz.prog W 0 sp hd n 30 [u, v] = some x) : ∃ a b, u = .int .i64 a ∧ v = .int .i64 b ∧ Fits a ∧ Fits b := by
  obtain ⟨xs, m, _, _, _, hl, he⟩ := DataW.trod_array Tryz.underlying30 h
  match xs, hl with
  | [y0, y1], _ =>
    have g0 := he 0 (by decide)
    have g1 := he 1 (by decide)
    simp [c3] at g0 g1
    obtain ⟨a, rfl, ha⟩ := oneI g0
    obtain ⟨b, rfl, hb⟩ := oneI g1
    exact ⟨a, b, rfl, rfl, ha, hb⟩
theorem two_bools {u v : Value} {x : DataW H × List MemPlace} (h : DataW.trod enc Tryz.prog W 0 sp hd n 31 [u, v] = some x) : ∃ a b, u = .bool a ∧ v = .bool b := by
  obtain ⟨xs, m, _, _, _, hl, he⟩ := DataW.trod_array Tryz.underlying31 h
  match xs, hl with
  | [y0, y1], _ =>
    have g0 := he 0 (by decide)
    have g1 := he 1 (by decide)
    simp [c4] at g0 g1
    obtain ⟨a, rfl⟩ := oneB g0
    obtain ⟨b, rfl⟩ := oneB g1
    exact ⟨a, b, rfl, rfl⟩
end
/-- Five cells that read as an operation. -/
theorem open_cells27 {H : Type} {enc : TypeId × Value → H} {W : World} {sp : Nat → Bool} {hd : Bool} {n : Nat} {l : List Value} (hl : l.length = 5) {x : DataW H × List MemPlace} (h : DataW.trod enc Tryz.prog W 0 sp hd n 39 l = some x) : ∃ o, l = (opC o).toList ∧ FitsO o := by
  match l, hl with
  | [v0, v1, v2, v3, v4], _ =>
    obtain ⟨xs, m, _, _, _, hl, hfs⟩ := DataW.trod_struct Tryz.underlying39 h
    match xs, hl with
    | [y0, y1, y2, y3, y4], _ =>
      have g0 := hfs 0 _ rfl
      have g1 := hfs 1 _ rfl
      have g2 := hfs 2 _ rfl
      have g3 := hfs 3 _ rfl
      have g4 := hfs 4 _ rfl
      simp [c3, c4] at g0 g1 g2 g3 g4
      obtain ⟨kind, rfl, h0⟩ := oneI g0
      obtain ⟨rev, rfl, h1⟩ := oneI g1
      obtain ⟨cnt, rfl, h2⟩ := oneI g2
      obtain ⟨delay, rfl, h3⟩ := oneI g3
      obtain ⟨pass, rfl⟩ := oneB g4
      exact ⟨⟨kind, rev, cnt, delay, pass⟩, rfl, ⟨h0, h1, h2, h3⟩⟩
theorem k34 : Tryz.prog.cellsOf 42 = 10 := by kernel_rfl
theorem k31 : Tryz.prog.cellsOf 39 = 5 := by kernel_rfl
theorem k32 : Tryz.prog.cellsOf 40 = 1 := by kernel_rfl
set_option maxRecDepth 20000 in
/-- Acts that came in. -/
theorem open_acts {H : Type} {enc : TypeId × Value → H} {W : World} {base : Nat} {v : Value} {d : DataW H} {ps : List MemPlace} (hok : Value.okWide Tryz.prog W .any base 23 v) (h : DataW.Trod enc Tryz.prog W 0 (fun _ => true) true 23 v d ps) : ∃ xs, ActsI W v xs := by
  obtain ⟨a, len, cap, rfl⟩ := okWide_slice Tryz.underlying23 hok
  obtain ⟨fuel, hf⟩ := h
  rcases Go.Deep.open_slice Tryz.underlying23 hf with ⟨h0, _⟩ | ⟨a', len', cap', m, n, D, Pl, h0, _, hl, hm, hmm, _, hcell⟩
  · obtain ⟨rfl, rfl, rfl⟩ : a = none ∧ len = 0 ∧ cap = 0 := by simpa [Value.cells] using h0
    exact ⟨[], .inl ⟨.inl rfl, rfl⟩⟩
  · obtain ⟨rfl, rfl, rfl⟩ : a = some a' ∧ len = len' ∧ cap = cap' := by simpa [Value.cells] using h0
    rcases Nat.eq_zero_or_pos len with h5 | h5
    · subst h5
      exact ⟨[], .inl ⟨.inr ⟨_, _, rfl⟩, rfl⟩⟩
    have hm' : m = cap := by simpa using hmm
    subst hm'
    have each : ∀ i, i < len → ∃ q : Am, ∃ u : Value, (∀ j w, (amC q u).toList[j]? = some w → W.cell? (a'.add (i * 10 + j)) = some w) ∧ IntsI W u q.outs ∧ FitsA q := by
      intro i hi
      obtain ⟨cs, c1, t1⟩ := hcell i (by omega)
      rw [k34] at c1
      obtain ⟨_, hlen, hc⟩ := World.cells?_some c1
      obtain ⟨xs, k, hk, _, _, hxl, hfs⟩ := DataW.trod_struct Tryz.underlying42 t1
      match xs, hxl, cs, hlen with
      | [y0, y1, y2, y3, y4, y5], _, [v0, v1, v2, v3, v4, v5, v6, v7, v8, v9], _ =>
        have g0 := hfs 0 _ rfl
        have g1 := hfs 1 _ rfl
        have g2 := hfs 2 _ rfl
        have g3 := hfs 3 _ rfl
        have g4 := hfs 4 _ rfl
        have g5 := hfs 5 _ rfl
        simp [c3, c4, k31, k32] at g0 g1 g2 g3 g4 g5
        obtain ⟨x0, rfl, b0⟩ := oneI g0
        obtain ⟨x1, rfl, b1⟩ := oneI g1
        obtain ⟨x2, rfl, b2⟩ := oneI g2
        obtain ⟨x3, rfl⟩ := oneB g3
        obtain ⟨o, ho, b4⟩ := open_cells27 (by rfl) g4
        obtain ⟨zs, hz, bz⟩ := open_ints1 g5
        refine ⟨⟨x0, x1, x2, x3, o, zs⟩, v9, fun j w hj => ?_, hz, ⟨b0, b1, b2, b4, bz⟩⟩
        have hl : ([.int .i64 x0, .int .i64 x1, .int .i64 x2, .bool x3, v4, v5, v6, v7, v8, v9] : List Value) = (amC ⟨x0, x1, x2, x3, o, zs⟩ v9).toList := by
          simp only [opC, List.cons.injEq, and_true] at ho
          obtain ⟨rfl, rfl, rfl, rfl, rfl⟩ := ho
          rfl
        rw [← hl] at hj
        have h2 := hc j (by have := (List.getElem?_eq_some_iff.1 hj).1; simpa using this)
        rw [Go.Deep.add_add] at h2
        rw [h2]
        exact hj
    obtain ⟨q, hq⟩ := Go.Deep.choose_lt each
    obtain ⟨b, off, spot⟩ := a'
    have h1 : W.cell? ((⟨b, off, spot⟩ : Addr).add (0 * 10 + 0)) = some (.int .i64 (q 0).kind) := by
      obtain ⟨u, hu, _⟩ := hq 0 h5
      exact hu 0 _ rfl
    have hspot : spot = none := by simpa [Addr.add] using World.cell?_spot h1
    subst hspot
    have hadd := addr_add b off
    refine ⟨(List.range len).map q, .inr ⟨b, off, m, by simp, by simpa using h5, by simpa using hl, ?_, ?_⟩⟩
    · rw [hadd] at h1
      exact World.block_lt_of_cell? W _ h1
    · intro k hk
      obtain ⟨u, hu, g2, g3⟩ := hq k (by simpa using hk)
      simp only [List.getElem_map, List.getElem_range]
      refine ⟨u, fun j v hv => ?_, g2, g3⟩
      have h2 := hu j v hv
      rw [hadd] at h2
      rw [show off + k * 10 + j = off + (k * 10 + j) by omega]
      exact h2
theorem arr22 : Go.WideMaps.ArrKey Tryz.prog 22 3 3 := ⟨Tryz.underlying22, by kernel_rfl, by kernel_rfl, by kernel_rfl⟩
set_option maxRecDepth 20000 in
/-- Three numbers that came in. -/
theorem open_cfg {H : Type} {enc : TypeId × Value → H} {W : World} {base : Nat} {v : Value} {d : DataW H} {ps : List MemPlace} (hok : Value.okWide Tryz.prog W .any base 22 v) (h : DataW.Trod enc Tryz.prog W 0 (fun _ => true) true 22 v d ps) : ∃ a b c : Int, v = .agg #[.int .i64 a, .int .i64 b, .int .i64 c] ∧ Fits a ∧ Fits b ∧ Fits c := by
  obtain ⟨xs, rfl, hx⟩ := Go.WideMaps.okWide_arr arr22 hok
  obtain ⟨fuel, hf⟩ := h
  obtain ⟨ys, n, _, _, hl, hyl, hi⟩ := DataW.trod_array Tryz.underlying22 hf
  match xs, hx with
  | ⟨[x0, x1, x2]⟩, _ =>
    match ys, hyl with
    | [y0, y1, y2], _ =>
      have g0 := hi 0 (by omega)
      have g1 := hi 1 (by omega)
      have g2 := hi 2 (by omega)
      simp [c3, Value.cells] at g0 g1 g2
      obtain ⟨a, rfl, w0⟩ := oneI g0
      obtain ⟨b, rfl, w1⟩ := oneI g1
      obtain ⟨c, rfl, w2⟩ := oneI g2
      exact ⟨a, b, c, rfl, w0, w1, w2⟩
set_option maxRecDepth 20000 in
theorem open_ints {H : Type} {enc : TypeId × Value → H} {W : World} {base : Nat} {v : Value} {d : DataW H} {ps : List MemPlace} (hok : Value.okWide Tryz.prog W .any base 40 v) (h : DataW.Trod enc Tryz.prog W 0 (fun _ => true) true 40 v d ps) : ∃ xs, IntsI W v xs ∧ ∀ x ∈ xs, Fits x := by
  obtain ⟨a, len, cap, rfl⟩ := okWide_slice Tryz.underlying40 hok
  obtain ⟨fuel, hf⟩ := h
  exact open_ints1 hf
set_option maxRecDepth 20000 in
theorem open_bool {W : World} {base : Nat} {v : Value} (hok : Value.okWide Tryz.prog W .any base 4 v) : ∃ a, v = .bool a := okWide_bool Tryz.underlying4 hok
end Go.Proofs.YtchaeidmjoelnaaGreat
namespace Go.Proofs.YtchaeidmjoelnaaGreat
open Go.RowKit

/-- The k-th act, in a world that is as it was below; its outcomes as they came in. -/
theorem ActsI.kth0 {w w' : World} {A : Option Addr} {c k : Nat} {xs : List Am} (h : ActsI w (.slice A xs.length c) xs) (hb : Below w.heap.size w w') (hk : k < xs.length) :
    ∃ b o u, A = some ⟨b, o, none⟩ ∧ w'.rangeAt b (o + k * 10) (amC xs[k] u).toList ∧ IntsI w u xs[k].outs ∧ FitsA xs[k] := by
  rcases h with ⟨_, rfl⟩ | ⟨b, o, c', h1, h2, h3, h4, h5⟩
  · simp at hk
  · injection h1 with h1
    obtain ⟨u, g1, g2, g3⟩ := h5 k hk
    exact ⟨b, o, u, h1, range_under g1 hb h4, g2, g3⟩
theorem IntsI.kthI {w w' : World} {A : Option Addr} {c k : Nat} {xs : List Int} (h : IntsI w (.slice A xs.length c) xs) (hb : Below w.heap.size w w') (hk : k < xs.length) :
    ∃ b o, A = some ⟨b, o, none⟩ ∧ w'.cell? ⟨b, o + k, none⟩ = some (.int .i64 xs[k]) := by
  rcases h with ⟨_, rfl⟩ | ⟨b, o, c', h1, h2, h3, h4, h5⟩
  · simp at hk
  · injection h1 with h1
    exact ⟨b, o, h1, (hb.cell (p := ⟨b, _, none⟩) h4).trans (h5 k hk)⟩
/-- A reply's tick. -/
theorem field44 {cs : Array Value} {t : Int} (h : cs[20]? = some (.int .i64 t)) (w : World) : (Instr.field 59 (.agg cs) 5).run Tryz.prog w = .ok (.int .i64 t) w := by
  simp [Instr.field, run_underlying Tryz.underlying59, asAgg, part, h]
theorem op_tick (m : Md) (o : Oc) : (opM m o).1.tick = m.tick := by
  unfold opM
  split <;> rfl
theorem rep_tick (m : Md) (n : Int) : (repC (tickM m n)).setIfInBounds 20 (.int .i64 m.tick) = repC m := rfl
theorem mdn_take {m0 : Md} (h : MdN 0 m0) {xs : List Am} (hg : xs.length ≤ 80 ∧ ∀ a ∈ xs, a.outs.length ≤ 50) (k : Nat) (hk : k ≤ xs.length) : MdN 800 (actsM m0 (xs.take k)) :=
  (h.acts (xs.take k) (fun a ha => by have := hg.2 a (List.mem_of_mem_take ha); omega)).up (by rw [List.length_take]; omega)
theorem mdn_all {m0 : Md} (h : MdN 0 m0) {xs : List Am} (hg : xs.length ≤ 80 ∧ ∀ a ∈ xs, a.outs.length ≤ 50) : MdN 800 (actsM m0 xs) :=
  (h.acts xs (fun a ha => by have := hg.2 a ha; omega)).up (by omega)
end Go.Proofs.YtchaeidmjoelnaaGreat
