/-
  Package model in memory: its block, a fleet, a router with its fuse (MdM).
  Package model's own functions.
-/
import Derived.Test.YtchaeidmjoelnaaGreatMdH
import Derived.Test.YtchaeidmjoelnaaGreatFlP2
import Derived.Test.YtchaeidmjoelnaaGreatMdC
import Derived.Test.YtchaeidmjoelnaaGreatMayP
import Derived.Test.YtchaeidmjoelnaaGreatPlnA
import Derived.Deep.RegionHeld3
import Derived.Deep.Cut
namespace Go.Proofs.YtchaeidmjoelnaaGreat
open Go.RowKit

/-- Cells from place o on are written. -/
def putL (cur : Array Value) (o : Nat) : List Value → Array Value
  | [] => cur
  | v :: vs => putL (cur.setIfInBounds o v) (o + 1) vs
theorem row_setCells {b : Nat} {t : TypeId} : ∀ (vs : List Value) (o : Nat) (W : World) (cur : Array Value), Rw W b cur t → Rw (W.setCells b o vs) b (putL cur o vs) t ∧ (W.setCells b o vs).heap.size = W.heap.size ∧ (∀ k, k ≠ b → (W.setCells b o vs).heap[k]? = W.heap[k]?) ∧ (W.setCells b o vs).os = W.os ∧ (W.setCells b o vs).tape = W.tape ∧ (W.setCells b o vs).output = W.output
  | [], _, _, _, h => ⟨h, rfl, fun _ _ => rfl, rfl, rfl, rfl⟩
  | v :: vs, o, W, cur, h => by
    have h1 : Rw (W.setCell ⟨b, o, none⟩ v) b (cur.setIfInBounds o v) t := by
      unfold Rw at h ⊢
      simp [World.setCell, Array.getElem?_modify, h]
    obtain ⟨g1, g2, g3, g4, g5, g6⟩ := row_setCells vs (o + 1) (W.setCell ⟨b, o, none⟩ v) _ h1
    exact ⟨g1, g2.trans (by simp [World.setCell]), fun k hk => (g3 k hk).trans (Below.heap_setCell W ⟨b, o, none⟩ v k hk), g4, g5, g6⟩
/-- A model's cells: the state, its fleet, its router, tries, the tick. -/
def mdC (m : Md) (fb rb : Nat) : Array Value := #[.int .i64 m.s.ph, .int .i64 m.s.ac, .int .i64 m.s.r0, .int .i64 m.s.r1, .int .i64 m.s.w0, .int .i64 m.s.w1, .bool m.s.p0, .bool m.s.p1, .int .i64 m.s.dl, .int .i64 m.s.gn, .int .i64 m.s.sw, .int .i64 m.s.fl, ptr fb, ptr rb, .int .i64 m.tries, .int .i64 m.tick]
structure MdM (O : Nat → Prop) (W : World) (b fb rb : Nat) (OF OR : Nat → Prop) (m : Md) : Prop where
  row : Rw W b (mdC m fb rb) 74
  fl : FlP OF W fb m.k m.l
  ro : RoO OR W rb (m.ro, m.fu)
  nf : ¬ OF b
  nr : ¬ OR b
  fr : ∀ j, OF j → ¬ OR j
  ob : O b
  sf : ∀ j, OF j → O j
  sr : ∀ j, OR j → O j
  lt : ∀ j, O j → j < W.heap.size
/-- With its fleet and its router at known blocks; at some. -/
def MdX (fb rb : Nat) : ObIn Md := fun O W b m => ∃ OF OR, MdM O W b fb rb OF OR m
def MdP : ObIn Md := fun O W b m => ∃ fb rb, MdX fb rb O W b m
section
variable {O OF OR : Nat → Prop} {W W' : World} {b fb rb : Nat} {m : Md}
theorem keep_lt {O : Nat → Prop} (hl : ∀ j, O j → j < W.heap.size) (hk : ∀ j, O j → W'.heap[j]? = W.heap[j]?) : ∀ j, O j → j < W'.heap.size := fun j hj => by
  rcases Nat.lt_or_ge j W'.heap.size with h | h
  · exact h
  · have h7 := hk j hj
    rw [Array.getElem?_eq_none h, Array.getElem?_eq_getElem (hl j hj)] at h7
    cases h7
theorem MdM.keep (h : MdM O W b fb rb OF OR m) (hk : ∀ j, O j → W'.heap[j]? = W.heap[j]?) : MdM O W' b fb rb OF OR m where
  row := (hk b h.ob).trans h.row
  fl := flp_keeps.keep h.fl (fun j hj => hk j (h.sf j hj))
  ro := roo_keeps.keep h.ro (fun j hj => hk j (h.sr j hj))
  nf := h.nf
  nr := h.nr
  fr := h.fr
  ob := h.ob
  sf := h.sf
  sr := h.sr
  lt := keep_lt h.lt hk
theorem mdx_keeps (fb rb : Nat) : KeepsO (MdX fb rb) where
  lt := fun ⟨_, _, h⟩ => h.lt
  keep := fun ⟨OF, OR, h⟩ hk => ⟨OF, OR, h.keep hk⟩
theorem mdp_keeps : KeepsO MdP where
  lt := fun ⟨_, _, _, _, h⟩ => h.lt
  keep := fun ⟨fb, rb, OF, OR, h⟩ hk => ⟨fb, rb, OF, OR, h.keep hk⟩
/-- Its fleet turned. -/
theorem MdM.fleet {k' l' : List Bool} (h : MdM O W b fb rb OF OR m) (ht : Turn FlP OF W W' fb k' l') : TurnO (MdX fb rb) O W W' b { m with k := k', l := l' } := by
  obtain ⟨OF', g1, g2, g3⟩ := ht
  have hb : ∀ j, O j → ¬ OF j → W'.heap[j]? = W.heap[j]? := fun j hj hn => g3.block j (h.lt j hj) hn
  refine ⟨more O W W', ⟨OF', OR, ⟨(hb b h.ob h.nf).trans h.row, g1, roo_keeps.keep h.ro (fun j hj => hb j (h.sr j hj) (fun hf => h.fr j hf hj)), fun ho => ?_, h.nr, fun j hf hr => ?_, .inl h.ob, fun j hf => ?_, fun j hr => .inl (h.sr j hr), fun j hj => hj.elim (fun e => Nat.lt_of_lt_of_le (h.lt j e) g3.size) And.right⟩⟩, more_sub O W W', ⟨g3.os, g3.tape, g3.output, g3.size, fun j hj hn => g3.block j hj (fun hf => hn (h.sf j hf))⟩⟩
  · rcases g2 b ho with e | e
    · exact h.nf e
    · have := h.lt b h.ob; omega
  · rcases g2 j hf with e | e
    · exact h.fr j e hr
    · have := h.lt j (h.sr j hr); omega
  · rcases g2 j hf with e | e
    · exact .inl (h.sf j e)
    · exact .inr ⟨e, flp_keeps.lt g1 j hf⟩
/-- Its router turned. -/
theorem MdM.router {s' : Ro} {f' : Fu} (h : MdM O W b fb rb OF OR m) (ht : TurnO RoO OR W W' rb (s', f')) : TurnO (MdX fb rb) O W W' b { m with ro := s', fu := f' } := by
  obtain ⟨OR', g1, g2, g3⟩ := ht
  have hb : ∀ j, O j → ¬ OR j → W'.heap[j]? = W.heap[j]? := fun j hj hn => g3.block j (h.lt j hj) hn
  refine ⟨more O W W', ⟨OF, OR', ⟨(hb b h.ob h.nr).trans h.row, flp_keeps.keep h.fl (fun j hj => hb j (h.sf j hj) (h.fr j hj)), g1, h.nf, fun ho => ?_, fun j hf hr => ?_, .inl h.ob, fun j hf => .inl (h.sf j hf), fun j hr => ?_, fun j hj => hj.elim (fun e => Nat.lt_of_lt_of_le (h.lt j e) g3.size) And.right⟩⟩, more_sub O W W', ⟨g3.os, g3.tape, g3.output, g3.size, fun j hj hn => g3.block j hj (fun hf => hn (h.sr j hf))⟩⟩
  · rcases g2 b ho with e | e
    · exact h.nr e
    · have := h.lt b h.ob; omega
  · rcases g2 j hr with e | e
    · exact h.fr j hf e
    · have := h.lt j (h.sf j hf); omega
  · rcases g2 j hr with e | e
    · exact .inl (h.sr j e)
    · exact .inr ⟨e, roo_keeps.lt g1 j hr⟩
/-- Its own block is written. -/
theorem MdM.write {m' : Md} (h : MdM O W b fb rb OF OR m) (h1 : Rw W' b (mdC m' fb rb) 74) (h2 : W'.heap.size = W.heap.size) (h3 : ∀ k, k ≠ b → W'.heap[k]? = W.heap[k]?) (h4 : W'.os = W.os) (h5 : W'.tape = W.tape) (h6 : W'.output = W.output) (e1 : m'.k = m.k) (e2 : m'.l = m.l) (e3 : m'.ro = m.ro) (e4 : m'.fu = m.fu) : TurnO (MdX fb rb) O W W' b m' :=
  ⟨O, ⟨OF, OR, ⟨h1, by rw [e1, e2]; exact flp_keeps.keep h.fl (fun j hj => h3 j (fun e => h.nf (e ▸ hj))), by rw [e3, e4]; exact roo_keeps.keep h.ro (fun j hj => h3 j (fun e => h.nr (e ▸ hj))), h.nf, h.nr, h.fr, h.ob, h.sf, h.sr, fun j hj => by rw [h2]; exact h.lt j hj⟩⟩, fun _ h => .inl h, ⟨h4, h5, h6, Nat.le_of_eq h2.symm, fun j _ hn => h3 j (fun e => hn (e ▸ h.ob))⟩⟩
theorem put_st (m : Md) (s : St) : putL (mdC m fb rb) 0 (stC s).toList = mdC { m with s := s } fb rb := by kernel_rfl
theorem MdM.state (h : MdM O W b fb rb OF OR m) (s : St) : TurnO (MdX fb rb) O W (W.setCells b 0 (stC s).toList) b { m with s := s } := by
  obtain ⟨g1, g2, g3, g4, g5, g6⟩ := row_setCells (stC s).toList 0 W _ h.row
  rw [put_st] at g1
  exact h.write g1 g2 g3 g4 g5 g6 rfl rfl rfl rfl
theorem MdM.time (h : MdM O W b fb rb OF OR m) (t : Int) : TurnO (MdX fb rb) O W (W.setCell ⟨b, 15, none⟩ (.int .i64 t)) b { m with tick := t } := by
  refine h.write ?_ (by simp [World.setCell]) (fun k hk => Below.heap_setCell W ⟨b, 15, none⟩ _ k hk) rfl rfl rfl rfl rfl rfl rfl
  have h1 := h.row
  unfold Rw at h1 ⊢
  simp [World.setCell, Array.getElem?_modify, h1]
  rfl
end
section
variable {O0 : Nat → Prop} {w W W' : World} {L : List Row} {b fb rb : Nat} {m : Md}
/-- A call on its fleet, on its router. -/
theorem Hold.fleet {k' l' : List Bool} (h : Hold (MdX fb rb) O0 w W L b m) {f : FuncId} {args : Array Value} {Pe : Ending → Prop} (hc : ∀ OF, FlP OF W fb m.k m.l → Calls Tryz.prog f args W fun e w' => Pe e ∧ Turn FlP OF W w' fb k' l') : Calls Tryz.prog f args W fun e w' => Pe e ∧ Hold (MdX fb rb) O0 w w' L b { m with k := k', l := l' } :=
  h.turn fun _ ⟨OF, _, h1⟩ => (hc OF h1.fl).mono fun _ _ ⟨he, ht⟩ => ⟨he, h1.fleet ht⟩
theorem Hold.router {x : Ro × Fu} (h : Hold (MdX fb rb) O0 w W L b m) {f : FuncId} {args : Array Value} {Pe : Ending → Prop} (hc : ∀ OR, RoO OR W rb (m.ro, m.fu) → Calls Tryz.prog f args W fun e w' => Pe e ∧ TurnO RoO OR W w' rb x) : Calls Tryz.prog f args W fun e w' => Pe e ∧ Hold (MdX fb rb) O0 w w' L b { m with ro := x.1, fu := x.2 } :=
  h.turn fun _ ⟨_, OR, h1⟩ => (hc OR h1.ro).mono fun _ _ ⟨he, ht⟩ => ⟨he, h1.router ht⟩
theorem Hold.state (h : Hold (MdX fb rb) O0 w W L b m) (s : St) : Hold (MdX fb rb) O0 w (W.setCells b 0 (stC s).toList) L b { m with s := s } := h.step fun _ ⟨_, _, h1⟩ => h1.state s
theorem Hold.time (h : Hold (MdX fb rb) O0 w W L b m) (t : Int) : Hold (MdX fb rb) O0 w (W.setCell ⟨b, 15, none⟩ (.int .i64 t)) L b { m with tick := t } := h.step fun _ ⟨_, _, h1⟩ => h1.time t
theorem Hold.mrow (h : Hold (MdX fb rb) O0 w W L b m) : Rw W b (mdC m fb rb) 74 := by
  obtain ⟨_, ⟨_, _, h1⟩, _⟩ := h.ex
  exact h1.row
theorem Hold.mst (h : Hold (MdX fb rb) O0 w W L b m) : W.rangeAt b 0 (stC m.s).toList := h.mrow.range _ (fun j v hv => by
  match j, hv with
  | 0, hv | 1, hv | 2, hv | 3, hv | 4, hv | 5, hv | 6, hv | 7, hv | 8, hv | 9, hv | 10, hv | 11, hv => exact hv
  | j + 12, hv => simp [stC] at hv)
theorem Hold.mfin (h : Hold (MdX fb rb) O0 w W L b m) : TurnO MdP O0 w W b m := by
  obtain ⟨O, h1, h2, h3⟩ := h.fin
  exact ⟨O, ⟨fb, rb, h1⟩, h2, h3⟩
end
end Go.Proofs.YtchaeidmjoelnaaGreat
namespace Go.Proofs.YtchaeidmjoelnaaGreat
open Go.RowKit

theorem kind_o (o : Oc) : (recO o).kind = o.kind := by
  unfold recO
  split
  · rename_i h; exact h.symm
  · split <;> rfl
/-- A load of a struct in the middle of a block. -/
theorem exec_load_mid {P : Program} {o : Oper} {a : Act} {w : World} (ty : TypeId) (x : Operand) (ho : o.op = .load ty x) (b off : Nat) (hx : a.eval x = .pointer (some ⟨b, off, none⟩)) (cs : Array Value) (d : TypeDesc) (hc : w.rangeAt b off cs.toList)
    (hu : P.underlying ty = some d) (hd : d.isRow = true) (hi : (P.info? ty).map (·.size) = some cs.size) : (execOp a.eval o).run P w = .ok (.value (.agg cs)) w := by
  unfold execOp
  simp only [ho, hx, Instr.loadAt, Instr.sureAddr, Sem.run_bind, Sem.run_pure, Result.andThen_ok, run_loadVar_mid w b off ty cs.toList d hc hu hd (by simpa using hi)]
theorem Hold.there {fb rb b : Nat} {O0 : Nat → Prop} {w W : World} {L : List Row} {m : Md} (h : Hold (MdX fb rb) O0 w W L b m) : W.there b 0 12 := fun j hj => by
  have h1 := h.mrow
  refine ⟨?_, ?_⟩
  · rw [h1.cell]
    have : (mdC m fb rb).size = 16 := rfl
    rw [Array.getElem?_eq_getElem (by omega)]
    rfl
  · exact h1.fr _
theorem i2w : (Tryz.prog.info? 30).map (·.size) = some 2 := by kernel_rfl
/-- A record makes the state; the fleet stays. -/
def becM (m : Md) (r : Rc) : Md × Bool := ({ m with s := (stepS m.s r).1 }, (stepS m.s r).2)
theorem put_is (m : Md) (r : Rc) : putM m r = (fleetM (becM m r).1 (becM m r).1.s, (becM m r).2) := rfl
section
set_option maxRecDepth 100000 in
set_option maxHeartbeats 8000000 in
theorem pbec_any {O : Nat → Prop} {w : World} {b fb rb : Nat} {m : Md} (r : Rc) (h : MdX fb rb O w b m) (hk : Fits r.kind) : Calls Tryz.prog 42 #[ptr b, recV r] w fun e w' => e = .returned (.bool (becM m r).2) ∧ TurnO (MdX fb rb) O w w' b (becM m r).1 := by
  obtain ⟨O0, hO0⟩ : ∃ X, X = O := ⟨_, rfl⟩
  rw [← hO0]
  obtain ⟨rs, hrs⟩ : ∃ c, c = recC r := ⟨_, rfl⟩
  have HZ_rs : Hid (rs.size = 19) := Lib.hid (by rw [hrs]; rfl)
  obtain ⟨x, hx⟩ : ∃ x, x = stepS m.s r := ⟨_, rfl⟩
  obtain ⟨xc, hxc⟩ : ∃ c, c = stC x.1 := ⟨_, rfl⟩
  obtain ⟨xb, hxb⟩ : ∃ c, c = x.2 := ⟨_, rfl⟩
  have HXC := Lib.hid hxc
  have HZ_xc : Hid (xc.size = 12) := Lib.hid (by rw [hxc]; rfl)
  have H1_xc : Hid (xc.all (·.oneCell') = true) := Lib.hid (by rw [hxc]; exact stC_one _)
  have HST : Hid (∀ W, Calls Tryz.prog 66 #[.agg (stC m.s), .agg rs] W fun e w' => e = .returned (.tuple #[.agg xc, .bool xb]) ∧ Below W.heap.size W w') := Lib.hid (fun W => by
    have h1 := step_any m.s r W hk
    rw [← hx] at h1
    unfold StepR stV recV at h1
    rw [← hrs, ← hxc, ← hxb] at h1
    exact h1)
  have HE : Hid (becM m r = ({ m with s := x.1 }, xb)) := Lib.hid (by unfold becM; rw [hxb, hx])
  have HH : Hid (Hold (MdX fb rb) O0 w w [] b m) := Lib.hid (Hold.start (by rw [hO0]; exact h))
  unfold recV
  rw [← hrs]
  clear hrs hx hxc hxb h hk hO0
  go_enter Tryz.func42, Tryz.ntmps42
  go_upto_region 1 with (fail)
  obtain ⟨R, hR⟩ : ∃ X, X = w.heap.size := ⟨_, rfl⟩
  rw [← hR]
  refine name_w (fun V => Hold (MdX fb rb) O0 w V [(R, rs, 85)] b m) (by rw [hR]; exact HH.out.alloc (mdx_keeps fb rb) rs 85) ?_
  clear hR HH
  rintro u0 h
  have HU0 := Lib.hid h
  clear h
  go_cut [5, 6] from 7 (fun sX sB W => ∃ X, sX = ptr X ∧ sB = .bool xb ∧ Hold (MdX fb rb) O0 w W [(X, xc, 33), (R, rs, 85)] b m)
  case first =>
    have HD0 := Lib.hid (HU0.out.drew (mdx_keeps fb rb))
    clear HU0
    refine wp_region_held_drew (S := fun Wx => Wx.rangeAt b 0 (stC m.s).toList ∧ Rw Wx R rs 85) (by kernel_rfl) ⟨HD0.out.mst, HD0.out.row1⟩ (fun hHeld => ?_)
    refine wpAnyH_take (i := 0) (oi := { dst := some 8, op := Op.move (Operand.tmp 0), type := 26, pos := "model.go:92", after := #[], guard := none }) (v := ?_) rfl (by kernel_rfl) (by kernel_rfl) (by kernel_rfl) (fun _ _ _ h => h) (Or.inl ⟨by rfl, ?_⟩) hHeld ?_
    rotate_left
    · rintro Wx ⟨hS0, hS1⟩
      clear hS0 hS1
      first | (go_simp; done) | (go_simp; with_reducible rfl)
    (try simp only [Act.put, List.setIfInBounds_toArray, List.set_cons_zero, List.set_cons_succ])
    refine wpAnyH_take (i := 1) (oi := { dst := some 9, op := Op.nilCheck (Operand.tmp 8), type := 0, pos := "model.go:92", after := #[{ on := 0, ground := Ground.data }], guard := none }) (v := ?_) rfl (by kernel_rfl) (by kernel_rfl) (by kernel_rfl) (fun _ _ _ h => h) (Or.inl ⟨by rfl, ?_⟩) hHeld ?_
    rotate_left
    · rintro Wx ⟨hS0, hS1⟩
      clear hS0 hS1
      first | (go_simp; done) | (go_simp; with_reducible rfl)
    (try simp only [Act.put, List.setIfInBounds_toArray, List.set_cons_zero, List.set_cons_succ])
    refine wpAnyH_take (i := 2) (oi := { dst := some 10, op := Op.fieldAddr 74 (Operand.tmp 9) 0, type := 0, pos := "model.go:92", after := #[{ on := 1, ground := Ground.data }], guard := none }) (v := ?_) rfl (by kernel_rfl) (by kernel_rfl) (by kernel_rfl) (fun _ _ _ h => h) (Or.inl ⟨by rfl, ?_⟩) hHeld ?_
    rotate_left
    · rintro Wx ⟨hS0, hS1⟩
      clear hS0 hS1
      first | (go_simp; done) | (go_simp; with_reducible rfl)
    (try simp only [Act.put, List.setIfInBounds_toArray, List.set_cons_zero, List.set_cons_succ])
    refine wpAnyH_take (i := 3) (oi := { dst := some 11, op := Op.load 33 (Operand.tmp 10), type := 33, pos := "model.go:92", after := #[{ on := 2, ground := Ground.data }], guard := none }) (v := .agg (stC m.s)) rfl (by kernel_rfl) (by kernel_rfl) (by kernel_rfl) (fun _ _ _ h => h) (Or.inl ⟨by rfl, fun Wx hS => exec_load_mid 33 (.tmp 10) rfl b 0 rfl (stC m.s) _ hS.1 Tryz.underlying33 rfl i12⟩) hHeld ?_
    (try simp only [Act.put, List.setIfInBounds_toArray, List.set_cons_zero, List.set_cons_succ])
    refine wpAnyH_take (i := 4) (oi := { dst := some 12, op := Op.load 85 (Operand.tmp 3), type := 85, pos := "model.go:92", after := #[], guard := none }) (v := .agg rs) rfl (by kernel_rfl) (by kernel_rfl) (by kernel_rfl) (fun _ _ _ h => h) (Or.inl ⟨by rfl, fun Wx hS => exec_load_row 85 (.tmp 3) rfl R rfl 85 rs (0, 0) _ hS.2 Tryz.underlying85 rfl (by rw [HZ_rs.out]; exact i19)⟩) hHeld ?_
    (try simp only [Act.put, List.setIfInBounds_toArray, List.set_cons_zero, List.set_cons_succ])
    refine wpAnyH_ready (rs := [5, 9]) (by kernel_rfl) (by simp) ?_
    refine AllReadyH.cons (o := { dst := some 13, op := Op.call { callee := Callee.value (Operand.func 66), args := #[Operand.tmp 11, Operand.tmp 12], argTypes := #[33, 85] }, type := 65, pos := "model.go:92", after := #[{ on := 3, ground := Ground.data }, { on := 4, ground := Ground.data }], guard := none }) rfl (fun K hK => ?_) (AllReadyH.cons (o := { dst := some 5, op := Op.alloc 33, type := 0, pos := "model.go:92", after := #[], guard := none }) rfl (fun K hK => ?_) AllReadyH.nil)
    · go_simp
      refine (HD0.out.aside (mdx_keeps fb rb) (HST.out _)).mono ?_
      rintro e x1 ⟨rfl, h⟩
      have HX1 := Lib.hid h
      clear h
      refine hK.out _ _ ?_ (fun hHeld => ?_)
      · exact ⟨HX1.out.mst, HX1.out.row1⟩
      clear hK K
      (try simp only [Act.put, List.setIfInBounds_toArray, List.set_cons_zero, List.set_cons_succ])
      refine wpAnyH_take (i := 6) (oi := { dst := some 7, op := Op.move (Operand.tmp 13), type := 65, pos := "model.go:92", after := #[{ on := 5, ground := Ground.data }], guard := none }) (v := ?_) rfl (by kernel_rfl) (by kernel_rfl) (by kernel_rfl) (fun _ _ _ h => h) (Or.inl ⟨by rfl, ?_⟩) hHeld ?_
      rotate_left
      · rintro Wx ⟨hS0, hS1⟩
        clear hS0 hS1
        first | (go_simp; done) | (go_simp; with_reducible rfl)
      (try simp only [Act.put, List.setIfInBounds_toArray, List.set_cons_zero, List.set_cons_succ])
      refine wpAnyH_take (i := 7) (oi := { dst := some 14, op := Op.extract (Operand.tmp 7) 0, type := 33, pos := "model.go:92", after := #[{ on := 6, ground := Ground.data }], guard := none }) (v := ?_) rfl (by kernel_rfl) (by kernel_rfl) (by kernel_rfl) (fun _ _ _ h => h) (Or.inl ⟨by rfl, ?_⟩) hHeld ?_
      rotate_left
      · rintro Wx ⟨hS0, hS1⟩
        clear hS0 hS1
        first | (go_simp; done) | (go_simp; with_reducible rfl)
      (try simp only [Act.put, List.setIfInBounds_toArray, List.set_cons_zero, List.set_cons_succ])
      refine wpAnyH_take (i := 8) (oi := { dst := some 15, op := Op.extract (Operand.tmp 7) 1, type := 4, pos := "model.go:92", after := #[{ on := 6, ground := Ground.data }, { on := 10, ground := Ground.gcOnly Departure.lateStores }], guard := none }) (v := ?_) rfl (by kernel_rfl) (by kernel_rfl) (by kernel_rfl) (fun _ _ _ h => h) (Or.inl ⟨by rfl, ?_⟩) hHeld ?_
      rotate_left
      · rintro Wx ⟨hS0, hS1⟩
        clear hS0 hS1
        first | (go_simp; done) | (go_simp; with_reducible rfl)
      (try simp only [Act.put, List.setIfInBounds_toArray, List.set_cons_zero, List.set_cons_succ])
      refine wpAnyH_ready (rs := [9]) (by kernel_rfl) (by simp) ?_
      refine AllReadyH.cons (o := { dst := some 5, op := Op.alloc 33, type := 0, pos := "model.go:92", after := #[], guard := none }) rfl (fun K hK => ?_) AllReadyH.nil
      go_simp
      have h : Hold (MdX fb rb) O0 w _ ((x1.heap.size, zeroSC, 33) :: [(R, rs, 85)]) b m := HX1.out.alloc (mdx_keeps fb rb) zeroSC 33
      obtain ⟨X2, hX⟩ : ∃ X, X = x1.heap.size := ⟨_, rfl⟩
      rw [← hX] at h ⊢
      have HX2 := Lib.hid h
      clear h hX
      refine hK.out _ _ ?_ (fun hHeld => ?_)
      · exact ⟨HX2.out.mst, HX2.out.row2⟩
      clear hK K
      (try simp only [Act.put, List.setIfInBounds_toArray, List.set_cons_zero, List.set_cons_succ])
      refine wpAnyH_ready (rs := [10]) (by kernel_rfl) (by simp) ?_
      refine AllReadyH.cons (o := { dst := none, op := Op.store 33 (Operand.tmp 5) (Operand.tmp 14), type := 0, pos := "model.go:92", after := #[{ on := 9, ground := Ground.data }, { on := 7, ground := Ground.data }, { on := 5, ground := Ground.chain }, { on := 0, ground := Ground.phase }, { on := 1, ground := Ground.phase }, { on := 2, ground := Ground.phase }, { on := 3, ground := Ground.phase }, { on := 4, ground := Ground.phase }, { on := 5, ground := Ground.phase }, { on := 6, ground := Ground.phase }, { on := 7, ground := Ground.phase }, { on := 8, ground := Ground.textOnly Departure.lateStores }, { on := 9, ground := Ground.phase }], guard := none }) rfl (fun K hK => ?_) AllReadyH.nil
      rw [if_pos (by rfl)]
      refine wp_store_row 33 (.tmp 5) (.tmp 14) rfl X2 xc rfl rfl 33 _ HX2.out.row1 (by rw [HZ_xc.out]; exact i12) (by rw [HZ_xc.out]; rfl) H1_xc.out ?_
      have h := HX2.out.setRow (mdx_keeps fb rb) xc
      have HX3 := Lib.hid h
      clear h
      refine hK.out _ _ ?_ (fun hHeld => ?_)
      · exact ⟨HX3.out.mst, HX3.out.row2⟩
      clear hK K
      (try simp only [Act.put])
      refine wpAnyH_take (i := 11) (oi := { dst := some 6, op := Op.assign (Operand.tmp 15), type := 4, pos := "model.go:92", after := #[{ on := 8, ground := Ground.data }, { on := 10, ground := Ground.chain }, { on := 0, ground := Ground.phase }, { on := 1, ground := Ground.phase }, { on := 2, ground := Ground.phase }, { on := 3, ground := Ground.phase }, { on := 4, ground := Ground.phase }, { on := 5, ground := Ground.phase }, { on := 6, ground := Ground.phase }, { on := 7, ground := Ground.phase }, { on := 8, ground := Ground.phase }, { on := 9, ground := Ground.phase }, { on := 10, ground := Ground.phase }], guard := none }) (v := ?_) rfl (by kernel_rfl) (by kernel_rfl) (by kernel_rfl) (fun _ _ _ h => h) (Or.inl ⟨by rfl, ?_⟩) hHeld ?_
      rotate_left
      · rintro Wx ⟨hS0, hS1⟩
        clear hS0 hS1
        first | (go_simp; done) | (go_simp; with_reducible rfl)
      (try simp only [Act.put, List.setIfInBounds_toArray, List.set_cons_zero, List.set_cons_succ])
      refine wpAnyH_done (by kernel_rfl) ?_ _
      go_wp2
      go_meet
      case rel => exact ⟨X2, rfl, rfl, HX3.out⟩
    · go_simp
      have h : Hold (MdX fb rb) O0 w _ ((u0.heap.size, zeroSC, 33) :: [(R, rs, 85)]) b m := HD0.out.alloc (mdx_keeps fb rb) zeroSC 33
      obtain ⟨X4, hX⟩ : ∃ X, X = u0.heap.size := ⟨_, rfl⟩
      rw [← hX] at h ⊢
      have HX4 := Lib.hid h
      clear h hX
      refine hK.out _ _ ?_ (fun hHeld => ?_)
      · exact ⟨HX4.out.mst, HX4.out.row2⟩
      clear hK K
      (try simp only [Act.put, List.setIfInBounds_toArray, List.set_cons_zero, List.set_cons_succ])
      refine wpAnyH_ready (rs := [5]) (by kernel_rfl) (by simp) ?_
      refine AllReadyH.cons (o := { dst := some 13, op := Op.call { callee := Callee.value (Operand.func 66), args := #[Operand.tmp 11, Operand.tmp 12], argTypes := #[33, 85] }, type := 65, pos := "model.go:92", after := #[{ on := 3, ground := Ground.data }, { on := 4, ground := Ground.data }], guard := none }) rfl (fun K hK => ?_) AllReadyH.nil
      go_simp
      refine (HX4.out.aside (mdx_keeps fb rb) (HST.out _)).mono ?_
      rintro e x5 ⟨rfl, h⟩
      have HX5 := Lib.hid h
      clear h
      refine hK.out _ _ ?_ (fun hHeld => ?_)
      · exact ⟨HX5.out.mst, HX5.out.row2⟩
      clear hK K
      (try simp only [Act.put, List.setIfInBounds_toArray, List.set_cons_zero, List.set_cons_succ])
      refine wpAnyH_take (i := 6) (oi := { dst := some 7, op := Op.move (Operand.tmp 13), type := 65, pos := "model.go:92", after := #[{ on := 5, ground := Ground.data }], guard := none }) (v := ?_) rfl (by kernel_rfl) (by kernel_rfl) (by kernel_rfl) (fun _ _ _ h => h) (Or.inl ⟨by rfl, ?_⟩) hHeld ?_
      rotate_left
      · rintro Wx ⟨hS0, hS1⟩
        clear hS0 hS1
        first | (go_simp; done) | (go_simp; with_reducible rfl)
      (try simp only [Act.put, List.setIfInBounds_toArray, List.set_cons_zero, List.set_cons_succ])
      refine wpAnyH_take (i := 7) (oi := { dst := some 14, op := Op.extract (Operand.tmp 7) 0, type := 33, pos := "model.go:92", after := #[{ on := 6, ground := Ground.data }], guard := none }) (v := ?_) rfl (by kernel_rfl) (by kernel_rfl) (by kernel_rfl) (fun _ _ _ h => h) (Or.inl ⟨by rfl, ?_⟩) hHeld ?_
      rotate_left
      · rintro Wx ⟨hS0, hS1⟩
        clear hS0 hS1
        first | (go_simp; done) | (go_simp; with_reducible rfl)
      (try simp only [Act.put, List.setIfInBounds_toArray, List.set_cons_zero, List.set_cons_succ])
      refine wpAnyH_take (i := 8) (oi := { dst := some 15, op := Op.extract (Operand.tmp 7) 1, type := 4, pos := "model.go:92", after := #[{ on := 6, ground := Ground.data }, { on := 10, ground := Ground.gcOnly Departure.lateStores }], guard := none }) (v := ?_) rfl (by kernel_rfl) (by kernel_rfl) (by kernel_rfl) (fun _ _ _ h => h) (Or.inl ⟨by rfl, ?_⟩) hHeld ?_
      rotate_left
      · rintro Wx ⟨hS0, hS1⟩
        clear hS0 hS1
        first | (go_simp; done) | (go_simp; with_reducible rfl)
      (try simp only [Act.put, List.setIfInBounds_toArray, List.set_cons_zero, List.set_cons_succ])
      refine wpAnyH_ready (rs := [10]) (by kernel_rfl) (by simp) ?_
      refine AllReadyH.cons (o := { dst := none, op := Op.store 33 (Operand.tmp 5) (Operand.tmp 14), type := 0, pos := "model.go:92", after := #[{ on := 9, ground := Ground.data }, { on := 7, ground := Ground.data }, { on := 5, ground := Ground.chain }, { on := 0, ground := Ground.phase }, { on := 1, ground := Ground.phase }, { on := 2, ground := Ground.phase }, { on := 3, ground := Ground.phase }, { on := 4, ground := Ground.phase }, { on := 5, ground := Ground.phase }, { on := 6, ground := Ground.phase }, { on := 7, ground := Ground.phase }, { on := 8, ground := Ground.textOnly Departure.lateStores }, { on := 9, ground := Ground.phase }], guard := none }) rfl (fun K hK => ?_) AllReadyH.nil
      rw [if_pos (by rfl)]
      refine wp_store_row 33 (.tmp 5) (.tmp 14) rfl X4 xc rfl rfl 33 _ HX5.out.row1 (by rw [HZ_xc.out]; exact i12) (by rw [HZ_xc.out]; rfl) H1_xc.out ?_
      have h := HX5.out.setRow (mdx_keeps fb rb) xc
      have HX6 := Lib.hid h
      clear h
      refine hK.out _ _ ?_ (fun hHeld => ?_)
      · exact ⟨HX6.out.mst, HX6.out.row2⟩
      clear hK K
      (try simp only [Act.put])
      refine wpAnyH_take (i := 11) (oi := { dst := some 6, op := Op.assign (Operand.tmp 15), type := 4, pos := "model.go:92", after := #[{ on := 8, ground := Ground.data }, { on := 10, ground := Ground.chain }, { on := 0, ground := Ground.phase }, { on := 1, ground := Ground.phase }, { on := 2, ground := Ground.phase }, { on := 3, ground := Ground.phase }, { on := 4, ground := Ground.phase }, { on := 5, ground := Ground.phase }, { on := 6, ground := Ground.phase }, { on := 7, ground := Ground.phase }, { on := 8, ground := Ground.phase }, { on := 9, ground := Ground.phase }, { on := 10, ground := Ground.phase }], guard := none }) (v := ?_) rfl (by kernel_rfl) (by kernel_rfl) (by kernel_rfl) (fun _ _ _ h => h) (Or.inl ⟨by rfl, ?_⟩) hHeld ?_
      rotate_left
      · rintro Wx ⟨hS0, hS1⟩
        clear hS0 hS1
        first | (go_simp; done) | (go_simp; with_reducible rfl)
      (try simp only [Act.put, List.setIfInBounds_toArray, List.set_cons_zero, List.set_cons_succ])
      refine wpAnyH_done (by kernel_rfl) ?_ _
      go_wp2
      go_meet
      case rel => exact ⟨X4, rfl, rfl, HX6.out⟩
  case rest =>
    clear HU0 HST
    obtain ⟨X, rfl, rfl, h⟩ := hcut
    have H1 := Lib.hid h
    clear h
    go_upto_region 3 with (first | (refine wpList_load_any (by rfl) 33 (.tmp 5) rfl X rfl 33 xc (0, 0) _ H1.out.row1 Tryz.underlying33 rfl (by rw [HZ_xc.out]; exact i12) ?_) | (refine wpList_store_mid rfl 33 (.tmp 19) (.tmp 17) rfl b 0 xc rfl rfl (by rw [HZ_xc.out]; exact H1.out.there) (by rw [HZ_xc.out]; exact i12) H1_xc.out ?_))
    refine name_w (fun V => Hold (MdX fb rb) O0 w V [(X, xc, 33), (R, rs, 85)] b { m with s := x.1 }) (by rw [HXC.out]; rw [HXC.out] at H1; exact H1.out.state x.1) ?_
    clear H1
    rintro u2 h
    have H2 := Lib.hid h
    clear h
    go_wp2
    go_ret
    exact ⟨by rw [HE.out]; rfl, by rw [HE.out]; exact H2.out.fin⟩
set_option maxRecDepth 100000 in
set_option maxHeartbeats 8000000 in
theorem pflt_any {O : Nat → Prop} {w : World} {b fb rb : Nat} {m : Md} (h : MdX fb rb O w b m) : Calls Tryz.prog 25 #[ptr b] w fun e w' => e = .returned (.tuple #[]) ∧ TurnO (MdX fb rb) O w w' b (fleetM m m.s) := by
  obtain ⟨O0, hO0⟩ : ∃ X, X = O := ⟨_, rfl⟩
  rw [← hO0]
  have HH : Hid (Hold (MdX fb rb) O0 w w [] b m) := Lib.hid (Hold.start (by rw [hO0]; exact h))
  clear h hO0
  go_enter Tryz.func25, Tryz.ntmps25
  go_upto_region 0 with (fail)
  have HD0 := Lib.hid (HH.out.drew (mdx_keeps fb rb))
  clear HH
  refine wp_region_held_drew (S := fun Wx => Wx.cell? ⟨b, 12, none⟩ = some (ptr fb) ∧ Wx.rangeAt b 4 (#[.int .i64 m.s.w0, .int .i64 m.s.w1] : Array Value).toList) (by kernel_rfl) ⟨(HD0.out.mrow.cell 12).trans rfl, HD0.out.mrow.range _ (fun j v hv => by match j, hv with | 0, hv | 1, hv => exact hv | j + 2, hv => simp at hv)⟩ (fun hHeld => ?_)
  refine wpAnyH_take (i := 0) (oi := { dst := some 2, op := Op.move (Operand.tmp 0), type := 26, pos := "model.go:98", after := #[], guard := none }) (v := ?_) rfl (by kernel_rfl) (by kernel_rfl) (by kernel_rfl) (fun _ _ _ h => h) (Or.inl ⟨by rfl, ?_⟩) hHeld ?_
  rotate_left
  · rintro Wx ⟨hS0, hS1⟩
    clear hS1
    first | (go_simp; done) | (go_simp; with_reducible rfl)
  (try simp only [Act.put, List.setIfInBounds_toArray, List.set_cons_zero, List.set_cons_succ])
  refine wpAnyH_take (i := 1) (oi := { dst := some 3, op := Op.nilCheck (Operand.tmp 2), type := 0, pos := "model.go:98", after := #[{ on := 0, ground := Ground.data }], guard := none }) (v := ?_) rfl (by kernel_rfl) (by kernel_rfl) (by kernel_rfl) (fun _ _ _ h => h) (Or.inl ⟨by rfl, ?_⟩) hHeld ?_
  rotate_left
  · rintro Wx ⟨hS0, hS1⟩
    clear hS1
    first | (go_simp; done) | (go_simp; with_reducible rfl)
  (try simp only [Act.put, List.setIfInBounds_toArray, List.set_cons_zero, List.set_cons_succ])
  refine wpAnyH_take (i := 2) (oi := { dst := some 4, op := Op.fieldAddr 74 (Operand.tmp 3) 1, type := 0, pos := "model.go:98", after := #[{ on := 1, ground := Ground.data }], guard := none }) (v := ?_) rfl (by kernel_rfl) (by kernel_rfl) (by kernel_rfl) (fun _ _ _ h => h) (Or.inl ⟨by rfl, ?_⟩) hHeld ?_
  rotate_left
  · rintro Wx ⟨hS0, hS1⟩
    clear hS1
    first | (go_simp; done) | (go_simp; with_reducible rfl)
  (try simp only [Act.put, List.setIfInBounds_toArray, List.set_cons_zero, List.set_cons_succ])
  refine wpAnyH_take (i := 3) (oi := { dst := some 5, op := Op.load 67 (Operand.tmp 4), type := 67, pos := "model.go:98", after := #[{ on := 2, ground := Ground.data }], guard := none }) (v := ?_) rfl (by kernel_rfl) (by kernel_rfl) (by kernel_rfl) (fun _ _ _ h => h) (Or.inl ⟨by rfl, ?_⟩) hHeld ?_
  rotate_left
  · rintro Wx ⟨hS0, hS1⟩
    clear hS1
    first | (go_simp; done) | (go_simp; with_reducible rfl)
  (try simp only [Act.put, List.setIfInBounds_toArray, List.set_cons_zero, List.set_cons_succ])
  refine wpAnyH_take (i := 4) (oi := { dst := some 6, op := Op.move (Operand.tmp 0), type := 26, pos := "model.go:98", after := #[], guard := none }) (v := ?_) rfl (by kernel_rfl) (by kernel_rfl) (by kernel_rfl) (fun _ _ _ h => h) (Or.inl ⟨by rfl, ?_⟩) hHeld ?_
  rotate_left
  · rintro Wx ⟨hS0, hS1⟩
    clear hS1
    first | (go_simp; done) | (go_simp; with_reducible rfl)
  (try simp only [Act.put, List.setIfInBounds_toArray, List.set_cons_zero, List.set_cons_succ])
  refine wpAnyH_take (i := 5) (oi := { dst := some 7, op := Op.nilCheck (Operand.tmp 6), type := 0, pos := "model.go:98", after := #[{ on := 4, ground := Ground.data }], guard := none }) (v := ?_) rfl (by kernel_rfl) (by kernel_rfl) (by kernel_rfl) (fun _ _ _ h => h) (Or.inl ⟨by rfl, ?_⟩) hHeld ?_
  rotate_left
  · rintro Wx ⟨hS0, hS1⟩
    clear hS1
    first | (go_simp; done) | (go_simp; with_reducible rfl)
  (try simp only [Act.put, List.setIfInBounds_toArray, List.set_cons_zero, List.set_cons_succ])
  refine wpAnyH_take (i := 6) (oi := { dst := some 8, op := Op.fieldAddr 74 (Operand.tmp 7) 0, type := 0, pos := "model.go:98", after := #[{ on := 5, ground := Ground.data }], guard := none }) (v := ?_) rfl (by kernel_rfl) (by kernel_rfl) (by kernel_rfl) (fun _ _ _ h => h) (Or.inl ⟨by rfl, ?_⟩) hHeld ?_
  rotate_left
  · rintro Wx ⟨hS0, hS1⟩
    clear hS1
    first | (go_simp; done) | (go_simp; with_reducible rfl)
  (try simp only [Act.put, List.setIfInBounds_toArray, List.set_cons_zero, List.set_cons_succ])
  refine wpAnyH_take (i := 7) (oi := { dst := some 9, op := Op.fieldAddr 33 (Operand.tmp 8) 3, type := 0, pos := "model.go:98", after := #[{ on := 6, ground := Ground.data }], guard := none }) (v := ?_) rfl (by kernel_rfl) (by kernel_rfl) (by kernel_rfl) (fun _ _ _ h => h) (Or.inl ⟨by rfl, ?_⟩) hHeld ?_
  rotate_left
  · rintro Wx ⟨hS0, hS1⟩
    clear hS1
    first | (go_simp; done) | (go_simp; with_reducible rfl)
  (try simp only [Act.put, List.setIfInBounds_toArray, List.set_cons_zero, List.set_cons_succ])
  refine wpAnyH_take (i := 8) (oi := { dst := some 10, op := Op.load 30 (Operand.tmp 9), type := 30, pos := "model.go:98", after := #[{ on := 7, ground := Ground.data }], guard := none }) (v := .agg (#[.int .i64 m.s.w0, .int .i64 m.s.w1] : Array Value)) rfl (by kernel_rfl) (by kernel_rfl) (by kernel_rfl) (fun _ _ _ h => h) (Or.inl ⟨by rfl, fun Wx hS => exec_load_mid 30 (.tmp 9) rfl b 4 rfl (#[.int .i64 m.s.w0, .int .i64 m.s.w1] : Array Value) _ hS.2 Tryz.underlying30 rfl i2w⟩) hHeld ?_
  (try simp only [Act.put, List.setIfInBounds_toArray, List.set_cons_zero, List.set_cons_succ])
  refine wpAnyH_ready (rs := [9]) (by kernel_rfl) (by simp) ?_
  refine AllReadyH.cons (o := { dst := some 11, op := Op.call { callee := Callee.value (Operand.func 50), args := #[Operand.tmp 5, Operand.tmp 10], argTypes := #[67, 30] }, type := 0, pos := "model.go:98", after := #[{ on := 3, ground := Ground.data }, { on := 8, ground := Ground.data }], guard := none }) rfl (fun K hK => ?_) AllReadyH.nil
  go_simp
  refine (HD0.out.fleet (fun _ h => pkgf_is.apply m.s.w0 m.s.w1 h)).mono ?_
  rintro e x7 ⟨rfl, h⟩
  have HX7 := Lib.hid h
  clear h
  refine hK.out _ _ ?_ (fun hHeld => ?_)
  · exact ⟨(HX7.out.mrow.cell 12).trans rfl, HX7.out.mrow.range _ (fun j v hv => by match j, hv with | 0, hv | 1, hv => exact hv | j + 2, hv => simp at hv)⟩
  clear hK K
  (try simp only [Act.put, List.setIfInBounds_toArray, List.set_cons_zero, List.set_cons_succ])
  refine wpAnyH_done (by kernel_rfl) ?_ _
  go_wp2
  go_end0
  exact ⟨rfl, HX7.out.fin⟩
theorem view_is (k l : List Bool) : viewK k l = .agg #[.int .i64 (k.length : Int), .int .i64 (l.length : Int), .int .i64 (cntL k : Int), .int .i64 (cntL l : Int)] := rfl
def zeroRep : Array Value := repC ⟨zeroS, [], [], ⟨0, 0, [], 0⟩, ⟨false, 0, false, 0⟩, 0, 0⟩
set_option maxRecDepth 100000 in
set_option maxHeartbeats 8000000 in
theorem preply_any {O : Nat → Prop} {w : World} {b fb rb : Nat} {m : Md} (h : MdX fb rb O w b m) : Calls Tryz.prog 16 #[ptr b] w fun e w' => e = .returned (repV m) ∧ TurnO (MdX fb rb) O w w' b m := by
  obtain ⟨O0, hO0⟩ : ∃ X, X = O := ⟨_, rfl⟩
  rw [← hO0]
  have HH : Hid (Hold (MdX fb rb) O0 w w [] b m) := Lib.hid (Hold.start (by rw [hO0]; exact h))
  clear h hO0
  go_enter Tryz.func16, Tryz.ntmps16
  go_upto_region 1 with (fail)
  obtain ⟨Z, hZ⟩ : ∃ X, X = w.heap.size := ⟨_, rfl⟩
  rw [← hZ]
  refine name_w (fun V => Hold (MdX fb rb) O0 w V [(Z, #[.int .i64 0, .int .i64 0, .int .i64 0, .int .i64 0, .int .i64 0, .int .i64 0, .int .i64 0, .bool false, .bool false, .int .i64 0, .int .i64 0, .int .i64 0, .int .i64 0, .int .i64 0, .int .i64 0, .int .i64 0, .int .i64 0, .int .i64 0, .int .i64 0, .bool false, .int .i64 0], 59)] b m) (by rw [hZ]; exact HH.out.alloc (mdx_keeps fb rb) _ 59) ?_
  clear hZ HH
  rintro u0 h
  have HD0 := Lib.hid (h.drew (mdx_keeps fb rb))
  clear h
  refine wp_region_held_drew (S := fun Wx => Wx.rangeAt b 0 (stC m.s).toList ∧ Wx.cell? ⟨b, 12, none⟩ = some (ptr fb) ∧ Wx.cell? ⟨b, 13, none⟩ = some (ptr rb) ∧ Wx.cell? ⟨b, 15, none⟩ = some (.int .i64 m.tick)) (by kernel_rfl) ⟨HD0.out.mst, by rw [HD0.out.mrow.cell]; rfl, by rw [HD0.out.mrow.cell]; rfl, by rw [HD0.out.mrow.cell]; rfl⟩ (fun hHeld => ?_)
  refine wpAnyH_take (i := 0) (oi := { dst := some 3, op := Op.move (Operand.tmp 0), type := 26, pos := "model.go:87", after := #[], guard := none }) (v := ?_) rfl (by kernel_rfl) (by kernel_rfl) (by kernel_rfl) (fun _ _ _ h => h) (Or.inl ⟨by rfl, ?_⟩) hHeld ?_
  rotate_left
  · rintro Wx ⟨hS0, hS1, hS2, hS3⟩
    clear hS0
    first | (go_simp; done) | (go_simp; with_reducible rfl)
  (try simp only [Act.put, List.setIfInBounds_toArray, List.set_cons_zero, List.set_cons_succ])
  refine wpAnyH_take (i := 1) (oi := { dst := some 4, op := Op.nilCheck (Operand.tmp 3), type := 0, pos := "model.go:87", after := #[{ on := 0, ground := Ground.data }], guard := none }) (v := ?_) rfl (by kernel_rfl) (by kernel_rfl) (by kernel_rfl) (fun _ _ _ h => h) (Or.inl ⟨by rfl, ?_⟩) hHeld ?_
  rotate_left
  · rintro Wx ⟨hS0, hS1, hS2, hS3⟩
    clear hS0
    first | (go_simp; done) | (go_simp; with_reducible rfl)
  (try simp only [Act.put, List.setIfInBounds_toArray, List.set_cons_zero, List.set_cons_succ])
  refine wpAnyH_take (i := 2) (oi := { dst := some 5, op := Op.fieldAddr 74 (Operand.tmp 4) 0, type := 0, pos := "model.go:87", after := #[{ on := 1, ground := Ground.data }], guard := none }) (v := ?_) rfl (by kernel_rfl) (by kernel_rfl) (by kernel_rfl) (fun _ _ _ h => h) (Or.inl ⟨by rfl, ?_⟩) hHeld ?_
  rotate_left
  · rintro Wx ⟨hS0, hS1, hS2, hS3⟩
    clear hS0
    first | (go_simp; done) | (go_simp; with_reducible rfl)
  (try simp only [Act.put, List.setIfInBounds_toArray, List.set_cons_zero, List.set_cons_succ])
  refine wpAnyH_take (i := 3) (oi := { dst := some 6, op := Op.load 33 (Operand.tmp 5), type := 33, pos := "model.go:87", after := #[{ on := 2, ground := Ground.data }], guard := none }) (v := .agg #[.int .i64 m.s.ph, .int .i64 m.s.ac, .int .i64 m.s.r0, .int .i64 m.s.r1, .int .i64 m.s.w0, .int .i64 m.s.w1, .bool m.s.p0, .bool m.s.p1, .int .i64 m.s.dl, .int .i64 m.s.gn, .int .i64 m.s.sw, .int .i64 m.s.fl]) rfl (by kernel_rfl) (by kernel_rfl) (by kernel_rfl) (fun _ _ _ h => h) (Or.inl ⟨by rfl, fun Wx hS => exec_load_mid 33 (.tmp 5) rfl b 0 rfl (stC m.s) _ hS.1 Tryz.underlying33 rfl i12⟩) hHeld ?_
  (try simp only [Act.put, List.setIfInBounds_toArray, List.set_cons_zero, List.set_cons_succ])
  refine wpAnyH_take (i := 4) (oi := { dst := some 7, op := Op.move (Operand.tmp 0), type := 26, pos := "model.go:87", after := #[], guard := none }) (v := ?_) rfl (by kernel_rfl) (by kernel_rfl) (by kernel_rfl) (fun _ _ _ h => h) (Or.inl ⟨by rfl, ?_⟩) hHeld ?_
  rotate_left
  · rintro Wx ⟨hS0, hS1, hS2, hS3⟩
    clear hS0
    first | (go_simp; done) | (go_simp; with_reducible rfl)
  (try simp only [Act.put, List.setIfInBounds_toArray, List.set_cons_zero, List.set_cons_succ])
  refine wpAnyH_take (i := 5) (oi := { dst := some 8, op := Op.nilCheck (Operand.tmp 7), type := 0, pos := "model.go:87", after := #[{ on := 4, ground := Ground.data }], guard := none }) (v := ?_) rfl (by kernel_rfl) (by kernel_rfl) (by kernel_rfl) (fun _ _ _ h => h) (Or.inl ⟨by rfl, ?_⟩) hHeld ?_
  rotate_left
  · rintro Wx ⟨hS0, hS1, hS2, hS3⟩
    clear hS0
    first | (go_simp; done) | (go_simp; with_reducible rfl)
  (try simp only [Act.put, List.setIfInBounds_toArray, List.set_cons_zero, List.set_cons_succ])
  refine wpAnyH_take (i := 6) (oi := { dst := some 9, op := Op.fieldAddr 74 (Operand.tmp 8) 2, type := 0, pos := "model.go:87", after := #[{ on := 5, ground := Ground.data }], guard := none }) (v := ?_) rfl (by kernel_rfl) (by kernel_rfl) (by kernel_rfl) (fun _ _ _ h => h) (Or.inl ⟨by rfl, ?_⟩) hHeld ?_
  rotate_left
  · rintro Wx ⟨hS0, hS1, hS2, hS3⟩
    clear hS0
    first | (go_simp; done) | (go_simp; with_reducible rfl)
  (try simp only [Act.put, List.setIfInBounds_toArray, List.set_cons_zero, List.set_cons_succ])
  refine wpAnyH_take (i := 7) (oi := { dst := some 10, op := Op.load 69 (Operand.tmp 9), type := 69, pos := "model.go:87", after := #[{ on := 6, ground := Ground.data }], guard := none }) (v := ?_) rfl (by kernel_rfl) (by kernel_rfl) (by kernel_rfl) (fun _ _ _ h => h) (Or.inl ⟨by rfl, ?_⟩) hHeld ?_
  rotate_left
  · rintro Wx ⟨hS0, hS1, hS2, hS3⟩
    clear hS0
    first | (go_simp; done) | (go_simp; with_reducible rfl)
  (try simp only [Act.put, List.setIfInBounds_toArray, List.set_cons_zero, List.set_cons_succ])
  refine wpAnyH_take (i := 9) (oi := { dst := some 12, op := Op.move (Operand.tmp 0), type := 26, pos := "model.go:87", after := #[], guard := none }) (v := ?_) rfl (by kernel_rfl) (by kernel_rfl) (by kernel_rfl) (fun _ _ _ h => h) (Or.inl ⟨by rfl, ?_⟩) hHeld ?_
  rotate_left
  · rintro Wx ⟨hS0, hS1, hS2, hS3⟩
    clear hS0
    first | (go_simp; done) | (go_simp; with_reducible rfl)
  (try simp only [Act.put, List.setIfInBounds_toArray, List.set_cons_zero, List.set_cons_succ])
  refine wpAnyH_take (i := 10) (oi := { dst := some 13, op := Op.nilCheck (Operand.tmp 12), type := 0, pos := "model.go:87", after := #[{ on := 9, ground := Ground.data }], guard := none }) (v := ?_) rfl (by kernel_rfl) (by kernel_rfl) (by kernel_rfl) (fun _ _ _ h => h) (Or.inl ⟨by rfl, ?_⟩) hHeld ?_
  rotate_left
  · rintro Wx ⟨hS0, hS1, hS2, hS3⟩
    clear hS0
    first | (go_simp; done) | (go_simp; with_reducible rfl)
  (try simp only [Act.put, List.setIfInBounds_toArray, List.set_cons_zero, List.set_cons_succ])
  refine wpAnyH_take (i := 11) (oi := { dst := some 14, op := Op.fieldAddr 74 (Operand.tmp 13) 1, type := 0, pos := "model.go:87", after := #[{ on := 10, ground := Ground.data }], guard := none }) (v := ?_) rfl (by kernel_rfl) (by kernel_rfl) (by kernel_rfl) (fun _ _ _ h => h) (Or.inl ⟨by rfl, ?_⟩) hHeld ?_
  rotate_left
  · rintro Wx ⟨hS0, hS1, hS2, hS3⟩
    clear hS0
    first | (go_simp; done) | (go_simp; with_reducible rfl)
  (try simp only [Act.put, List.setIfInBounds_toArray, List.set_cons_zero, List.set_cons_succ])
  refine wpAnyH_take (i := 12) (oi := { dst := some 15, op := Op.load 67 (Operand.tmp 14), type := 67, pos := "model.go:87", after := #[{ on := 11, ground := Ground.data }], guard := none }) (v := ?_) rfl (by kernel_rfl) (by kernel_rfl) (by kernel_rfl) (fun _ _ _ h => h) (Or.inl ⟨by rfl, ?_⟩) hHeld ?_
  rotate_left
  · rintro Wx ⟨hS0, hS1, hS2, hS3⟩
    clear hS0
    first | (go_simp; done) | (go_simp; with_reducible rfl)
  (try simp only [Act.put, List.setIfInBounds_toArray, List.set_cons_zero, List.set_cons_succ])
  refine wpAnyH_take (i := 14) (oi := { dst := some 17, op := Op.move (Operand.tmp 0), type := 26, pos := "model.go:87", after := #[], guard := none }) (v := ?_) rfl (by kernel_rfl) (by kernel_rfl) (by kernel_rfl) (fun _ _ _ h => h) (Or.inl ⟨by rfl, ?_⟩) hHeld ?_
  rotate_left
  · rintro Wx ⟨hS0, hS1, hS2, hS3⟩
    clear hS0
    first | (go_simp; done) | (go_simp; with_reducible rfl)
  (try simp only [Act.put, List.setIfInBounds_toArray, List.set_cons_zero, List.set_cons_succ])
  refine wpAnyH_take (i := 15) (oi := { dst := some 18, op := Op.nilCheck (Operand.tmp 17), type := 0, pos := "model.go:87", after := #[{ on := 14, ground := Ground.data }], guard := none }) (v := ?_) rfl (by kernel_rfl) (by kernel_rfl) (by kernel_rfl) (fun _ _ _ h => h) (Or.inl ⟨by rfl, ?_⟩) hHeld ?_
  rotate_left
  · rintro Wx ⟨hS0, hS1, hS2, hS3⟩
    clear hS0
    first | (go_simp; done) | (go_simp; with_reducible rfl)
  (try simp only [Act.put, List.setIfInBounds_toArray, List.set_cons_zero, List.set_cons_succ])
  refine wpAnyH_take (i := 16) (oi := { dst := some 19, op := Op.fieldAddr 74 (Operand.tmp 18) 4, type := 0, pos := "model.go:87", after := #[{ on := 15, ground := Ground.data }], guard := none }) (v := ?_) rfl (by kernel_rfl) (by kernel_rfl) (by kernel_rfl) (fun _ _ _ h => h) (Or.inl ⟨by rfl, ?_⟩) hHeld ?_
  rotate_left
  · rintro Wx ⟨hS0, hS1, hS2, hS3⟩
    clear hS0
    first | (go_simp; done) | (go_simp; with_reducible rfl)
  (try simp only [Act.put, List.setIfInBounds_toArray, List.set_cons_zero, List.set_cons_succ])
  refine wpAnyH_take (i := 17) (oi := { dst := some 20, op := Op.load 3 (Operand.tmp 19), type := 3, pos := "model.go:87", after := #[{ on := 16, ground := Ground.data }], guard := none }) (v := ?_) rfl (by kernel_rfl) (by kernel_rfl) (by kernel_rfl) (fun _ _ _ h => h) (Or.inl ⟨by rfl, ?_⟩) hHeld ?_
  rotate_left
  · rintro Wx ⟨hS0, hS1, hS2, hS3⟩
    clear hS0
    first | (go_simp; done) | (go_simp; with_reducible rfl)
  (try simp only [Act.put, List.setIfInBounds_toArray, List.set_cons_zero, List.set_cons_succ])
  refine wpAnyH_ready (rs := [8]) (by kernel_rfl) (by simp) ?_
  refine AllReadyH.cons (o := { dst := some 11, op := Op.call { callee := Callee.value (Operand.func 39), args := #[Operand.tmp 10], argTypes := #[69] }, type := 55, pos := "model.go:87", after := #[{ on := 7, ground := Ground.data }], guard := none }) rfl (fun K hK => ?_) AllReadyH.nil
  go_simp
  refine (HD0.out.look (mdx_keeps fb rb) (fun _ ⟨_, _, h⟩ => roo_cell h.ro)).mono ?_
  rintro e x8 ⟨rfl, h⟩
  have HX8 := Lib.hid h
  clear h
  refine hK.out _ _ ?_ (fun hHeld => ?_)
  · exact ⟨HX8.out.mst, by rw [HX8.out.mrow.cell]; rfl, by rw [HX8.out.mrow.cell]; rfl, by rw [HX8.out.mrow.cell]; rfl⟩
  clear hK K
  (try simp only [Act.put, List.setIfInBounds_toArray, List.set_cons_zero, List.set_cons_succ])
  refine wpAnyH_ready (rs := [13]) (by kernel_rfl) (by simp) ?_
  refine AllReadyH.cons (o := { dst := some 16, op := Op.call { callee := Callee.value (Operand.func 40), args := #[Operand.tmp 15], argTypes := #[67] }, type := 57, pos := "model.go:87", after := #[{ on := 12, ground := Ground.data }, { on := 8, ground := Ground.chain }], guard := none }) rfl (fun K hK => ?_) AllReadyH.nil
  go_simp
  refine (HX8.out.look (mdx_keeps fb rb) (fun _ ⟨_, _, h⟩ => by have h2 := pkgf_is.view h.fl; rw [view_is] at h2; exact h2)).mono ?_
  rintro e x9 ⟨rfl, h⟩
  have HX9 := Lib.hid h
  clear h
  refine hK.out _ _ ?_ (fun hHeld => ?_)
  · exact ⟨HX9.out.mst, by rw [HX9.out.mrow.cell]; rfl, by rw [HX9.out.mrow.cell]; rfl, by rw [HX9.out.mrow.cell]; rfl⟩
  clear hK K
  (try simp only [Act.put, List.setIfInBounds_toArray, List.set_cons_zero, List.set_cons_succ])
  refine wpAnyH_take (i := 18) (oi := { dst := some 21, op := Op.build 59 #[(0, Operand.const (Value.int IntKind.i64 0)), (1, Operand.tmp 6), (2, Operand.tmp 11), (3, Operand.tmp 16), (4, Operand.const (Value.bool true)), (5, Operand.tmp 20)], type := 59, pos := "model.go:87", after := #[{ on := 3, ground := Ground.data }, { on := 8, ground := Ground.data }, { on := 13, ground := Ground.data }, { on := 17, ground := Ground.data }], guard := none }) (v := ?_) rfl (by kernel_rfl) (by kernel_rfl) (by kernel_rfl) (fun _ _ _ h => h) (Or.inl ⟨by rfl, ?_⟩) hHeld ?_
  rotate_left
  · rintro Wx ⟨hS0, hS1, hS2, hS3⟩
    clear hS0
    first | (go_simp; done) | (go_simp; with_reducible rfl)
  (try simp only [Act.put, List.setIfInBounds_toArray, List.set_cons_zero, List.set_cons_succ])
  refine wpAnyH_ready (rs := [19]) (by kernel_rfl) (by simp) ?_
  refine AllReadyH.cons (o := { dst := none, op := Op.store 59 (Operand.tmp 2) (Operand.tmp 21), type := 0, pos := "model.go:87", after := #[{ on := 18, ground := Ground.data }, { on := 13, ground := Ground.chain }, { on := 0, ground := Ground.phase }, { on := 1, ground := Ground.phase }, { on := 2, ground := Ground.phase }, { on := 3, ground := Ground.phase }, { on := 4, ground := Ground.phase }, { on := 5, ground := Ground.phase }, { on := 6, ground := Ground.phase }, { on := 7, ground := Ground.phase }, { on := 8, ground := Ground.phase }, { on := 9, ground := Ground.phase }, { on := 10, ground := Ground.phase }, { on := 11, ground := Ground.phase }, { on := 12, ground := Ground.phase }, { on := 13, ground := Ground.phase }, { on := 14, ground := Ground.phase }, { on := 15, ground := Ground.phase }, { on := 16, ground := Ground.phase }, { on := 17, ground := Ground.phase }, { on := 18, ground := Ground.phase }], guard := none }) rfl (fun K hK => ?_) AllReadyH.nil
  rw [if_pos (by rfl)]
  refine wp_store_row 59 (.tmp 2) (.tmp 21) rfl Z (repC m) rfl rfl 59 _ HX9.out.row1 i21 rfl (repC_one _) ?_
  have h := HX9.out.setRow (mdx_keeps fb rb) (repC m)
  have HX10 := Lib.hid h
  clear h
  refine hK.out _ _ ?_ (fun hHeld => ?_)
  · exact ⟨HX10.out.mst, by rw [HX10.out.mrow.cell]; rfl, by rw [HX10.out.mrow.cell]; rfl, by rw [HX10.out.mrow.cell]; rfl⟩
  clear hK K
  (try simp only [Act.put])
  refine wpAnyH_done (by kernel_rfl) ?_ _
  go_wp2
  refine bodyPost_ret (results_cell_row rfl _ _ Z 59 (repC m) (0, 0) _ rfl HX10.out.row1 Tryz.underlying59 rfl i21) rfl ?_
  exact ⟨rfl, HX10.out.fin⟩
theorem padd_any (a b : Int) (w : World) (ha : 0 ≤ a ∧ a ≤ 1073741824) (hb : Fits b) : Calls Tryz.prog 61 #[.int .i64 a, .int .i64 b, .int .i64 1073741824] w fun e w' => e = .returned (.int .i64 (addI a b 1073741824)) ∧ Below w.heap.size w w' := by
  obtain ⟨x, hx⟩ : ∃ x, x = max b 0 := ⟨_, rfl⟩
  have hx0 : 0 ≤ x := by omega
  have hx1 : x ≤ 9223372036854775807 := by unfold Fits at hb; omega
  have HE : Hid (addI a b 1073741824 = if 1073741824 - a < x then 1073741824 else a + x) := Lib.hid (by unfold addI; split <;> omega)
  have q1 : (if a < 0 then (0 : Int) else a) = a := if_neg (by omega)
  have q2 : (if b < 0 then (0 : Int) else b) = x := by split <;> omega
  obtain ⟨d, hd⟩ : ∃ d, d = 1073741824 - a := ⟨_, rfl⟩
  have q3 : wrap64 (1073741824 - a) = d := by rw [hd]; unfold wrap64; omega
  rw [← hd] at HE
  by_cases hlt : d < x
  · have e1 : decide (d < x) = true := decide_eq_true hlt
    have HR : Hid (addI a b 1073741824 = 1073741824) := Lib.hid (by rw [HE.out, if_pos hlt])
    clear hlt HE hd hx ha hb hx0 hx1
    go_enter Tryz.func61, Tryz.ntmps61
    go_wp2
    go_ret
    exact ⟨by rw [HR.out]; rfl, Below.refl _ _⟩
  · have e1 : decide (d < x) = false := decide_eq_false hlt
    obtain ⟨y, hy⟩ : ∃ y, y = a + x := ⟨_, rfl⟩
    have q4 : wrap64 (a + x) = y := by rw [hy]; unfold wrap64; omega
    have HR : Hid (addI a b 1073741824 = y) := Lib.hid (by rw [HE.out, if_neg hlt, hy])
    clear hlt HE hd hx ha hb hx0 hx1 hy
    go_enter Tryz.func61, Tryz.ntmps61
    go_wp2
    go_ret
    exact ⟨by rw [HR.out, ← q4]; rfl, Below.refl _ _⟩
set_option maxRecDepth 100000 in
set_option maxHeartbeats 8000000 in
theorem pready_m {O : Nat → Prop} {w : World} {b fb rb : Nat} {m : Md} (s i : Int) (on : Bool) (h : MdX fb rb O w b m) : Calls Tryz.prog 20 #[ptr b, .int .i64 s, .int .i64 i, .bool on] w fun e w' => e = .returned (.bool (decide (isW (slotK s m.k m.l) i))) ∧ TurnO (MdX fb rb) O w w' b (readyM m s i on) := by
  obtain ⟨O0, hO0⟩ : ∃ X, X = O := ⟨_, rfl⟩
  rw [← hO0]
  have HH : Hid (Hold (MdX fb rb) O0 w w [] b m) := Lib.hid (Hold.start (by rw [hO0]; exact h))
  clear h hO0
  have c12 : w.cell? ⟨b, 12, none⟩ = some (ptr fb) := by rw [HH.out.mrow.cell]; rfl
  go_enter Tryz.func20, Tryz.ntmps20
  go_wp2_with fail
  refine (HH.out.fleet (fun _ h => pkgf_is.ready s i on h)).mono ?_
  rintro e w1 ⟨rfl, h⟩
  have H1 := Lib.hid h
  clear h HH
  go_wp2
  go_ret
  exact ⟨rfl, H1.out.fin⟩
set_option maxRecDepth 100000 in
set_option maxHeartbeats 8000000 in
theorem ptick_m {O : Nat → Prop} {w : World} {b fb rb : Nat} {m : Md} (n : Int) (h : MdX fb rb O w b m) (ht : 0 ≤ m.tick ∧ m.tick ≤ 1073741824) (hn : Fits n) : Calls Tryz.prog 38 #[ptr b, .int .i64 n] w fun e w' => e = .returned (.tuple #[]) ∧ TurnO (MdX fb rb) O w w' b (tickM m n) := by
  obtain ⟨O0, hO0⟩ : ∃ X, X = O := ⟨_, rfl⟩
  rw [← hO0]
  have HH : Hid (Hold (MdX fb rb) O0 w w [] b m) := Lib.hid (Hold.start (by rw [hO0]; exact h))
  clear h hO0
  have c15 : w.cell? ⟨b, 15, none⟩ = some (.int .i64 m.tick) := by rw [HH.out.mrow.cell]; rfl
  have HAD := Lib.hid (padd_any m.tick n w ht hn)
  clear ht hn
  go_enter Tryz.func38, Tryz.ntmps38
  go_wp2_with fail
  refine (HH.out.aside (mdx_keeps fb rb) HAD.out).mono ?_
  rintro e w1 ⟨rfl, h⟩
  have H1 := Lib.hid h
  have f15 := h.mrow.fr 15
  have d15 : w1.cell? ⟨b, 15, none⟩ = some (.int .i64 m.tick) := by rw [h.mrow.cell]; rfl
  clear h HH c15 HAD
  go_wp2
  go_end0
  exact ⟨rfl, (H1.out.time _).fin⟩
set_option maxRecDepth 100000 in
set_option maxHeartbeats 8000000 in
theorem pop_m {O : Nat → Prop} {w : World} {b fb rb : Nat} {m : Md} (o : Oc) (h : MdX fb rb O w b m) (hI : MdI m) (ho : FitsO o) : Calls Tryz.prog 18 #[ptr b, opV o] w fun e w' => e = .returned (.int .i64 (opM m o).2) ∧ TurnO (MdX fb rb) O w w' b (opM m o).1 := by
  obtain ⟨O0, hO0⟩ : ∃ X, X = O := ⟨_, rfl⟩
  rw [← hO0]
  have HH : Hid (Hold (MdX fb rb) O0 w w [] b m) := Lib.hid (Hold.start (by rw [hO0]; exact h))
  clear h hO0
  obtain ⟨v, hv⟩ : ∃ v, v = chkS m.s o m.tick := ⟨_, rfl⟩
  have HV := Lib.hid hv
  have HKF : Hid (Fits (recO o).kind) := Lib.hid (by rw [kind_o]; exact ho.kind)
  obtain ⟨os, hos⟩ : ∃ c, c = opC o := ⟨_, rfl⟩
  have HZ_os : Hid (os.size = 5) := Lib.hid (by rw [hos]; rfl)
  have HCK : Hid (∀ W, Calls Tryz.prog 41 #[.agg (stC m.s), .agg os, .int .i64 m.tick] W fun e w' => e = .returned (.int .i64 v) ∧ Below W.heap.size W w') := Lib.hid (fun W => by
    rw [hv, hos]
    exact pkgm_is.check m.s o m.tick W hI.right hI.fits.s ho hI.fits.tick)
  have HRC : Hid (∀ W, Calls Tryz.prog 43 #[.agg os] W fun e w' => e = .returned (recV (recO o)) ∧ Below W.heap.size W w') := Lib.hid (fun W => by
    rw [hos]
    exact pkgm_is.record o W ho)
  unfold opV
  rw [← hos]
  clear hv hos hI ho
  go_enter Tryz.func18, Tryz.ntmps18
  go_upto_region 1 with (fail)
  obtain ⟨R, hR⟩ : ∃ X, X = w.heap.size := ⟨_, rfl⟩
  rw [← hR]
  refine name_w (fun V => Hold (MdX fb rb) O0 w V [(R, os, 39)] b m) (by rw [hR]; exact HH.out.alloc (mdx_keeps fb rb) os 39) ?_
  clear hR HH
  rintro u0 h
  have HD0 := Lib.hid (h.drew (mdx_keeps fb rb))
  clear h
  refine wp_region_held_drew (S := fun Wx => Wx.rangeAt b 0 (stC m.s).toList ∧ Rw Wx R os 39 ∧ Wx.cell? ⟨b, 15, none⟩ = some (.int .i64 m.tick)) (by kernel_rfl) ⟨HD0.out.mst, HD0.out.row1, by rw [HD0.out.mrow.cell]; rfl⟩ (fun hHeld => ?_)
  refine wpAnyH_take (i := 0) (oi := { dst := some 6, op := Op.move (Operand.tmp 0), type := 26, pos := "model.go:39", after := #[], guard := none }) (v := ?_) rfl (by kernel_rfl) (by kernel_rfl) (by kernel_rfl) (fun _ _ _ h => h) (Or.inl ⟨by rfl, ?_⟩) hHeld ?_
  rotate_left
  · rintro Wx ⟨hS0, hS1, hS2⟩
    clear hS0 hS1
    first | (go_simp; done) | (go_simp; with_reducible rfl)
  (try simp only [Act.put, List.setIfInBounds_toArray, List.set_cons_zero, List.set_cons_succ])
  refine wpAnyH_take (i := 1) (oi := { dst := some 7, op := Op.nilCheck (Operand.tmp 6), type := 0, pos := "model.go:39", after := #[{ on := 0, ground := Ground.data }], guard := none }) (v := ?_) rfl (by kernel_rfl) (by kernel_rfl) (by kernel_rfl) (fun _ _ _ h => h) (Or.inl ⟨by rfl, ?_⟩) hHeld ?_
  rotate_left
  · rintro Wx ⟨hS0, hS1, hS2⟩
    clear hS0 hS1
    first | (go_simp; done) | (go_simp; with_reducible rfl)
  (try simp only [Act.put, List.setIfInBounds_toArray, List.set_cons_zero, List.set_cons_succ])
  refine wpAnyH_take (i := 2) (oi := { dst := some 8, op := Op.fieldAddr 74 (Operand.tmp 7) 0, type := 0, pos := "model.go:39", after := #[{ on := 1, ground := Ground.data }], guard := none }) (v := ?_) rfl (by kernel_rfl) (by kernel_rfl) (by kernel_rfl) (fun _ _ _ h => h) (Or.inl ⟨by rfl, ?_⟩) hHeld ?_
  rotate_left
  · rintro Wx ⟨hS0, hS1, hS2⟩
    clear hS0 hS1
    first | (go_simp; done) | (go_simp; with_reducible rfl)
  (try simp only [Act.put, List.setIfInBounds_toArray, List.set_cons_zero, List.set_cons_succ])
  refine wpAnyH_take (i := 3) (oi := { dst := some 9, op := Op.load 33 (Operand.tmp 8), type := 33, pos := "model.go:39", after := #[{ on := 2, ground := Ground.data }], guard := none }) (v := .agg (stC m.s)) rfl (by kernel_rfl) (by kernel_rfl) (by kernel_rfl) (fun _ _ _ h => h) (Or.inl ⟨by rfl, fun Wx hS => exec_load_mid 33 (.tmp 8) rfl b 0 rfl (stC m.s) _ hS.1 Tryz.underlying33 rfl i12⟩) hHeld ?_
  (try simp only [Act.put, List.setIfInBounds_toArray, List.set_cons_zero, List.set_cons_succ])
  refine wpAnyH_take (i := 4) (oi := { dst := some 10, op := Op.load 39 (Operand.tmp 3), type := 39, pos := "model.go:39", after := #[], guard := none }) (v := .agg os) rfl (by kernel_rfl) (by kernel_rfl) (by kernel_rfl) (fun _ _ _ h => h) (Or.inl ⟨by rfl, fun Wx hS => exec_load_row 39 (.tmp 3) rfl R rfl 39 os (0, 0) _ hS.2.1 Tryz.underlying39 rfl (by rw [HZ_os.out]; exact i5)⟩) hHeld ?_
  (try simp only [Act.put, List.setIfInBounds_toArray, List.set_cons_zero, List.set_cons_succ])
  refine wpAnyH_take (i := 5) (oi := { dst := some 11, op := Op.move (Operand.tmp 0), type := 26, pos := "model.go:39", after := #[], guard := none }) (v := ?_) rfl (by kernel_rfl) (by kernel_rfl) (by kernel_rfl) (fun _ _ _ h => h) (Or.inl ⟨by rfl, ?_⟩) hHeld ?_
  rotate_left
  · rintro Wx ⟨hS0, hS1, hS2⟩
    clear hS0 hS1
    first | (go_simp; done) | (go_simp; with_reducible rfl)
  (try simp only [Act.put, List.setIfInBounds_toArray, List.set_cons_zero, List.set_cons_succ])
  refine wpAnyH_take (i := 6) (oi := { dst := some 12, op := Op.nilCheck (Operand.tmp 11), type := 0, pos := "model.go:39", after := #[{ on := 5, ground := Ground.data }], guard := none }) (v := ?_) rfl (by kernel_rfl) (by kernel_rfl) (by kernel_rfl) (fun _ _ _ h => h) (Or.inl ⟨by rfl, ?_⟩) hHeld ?_
  rotate_left
  · rintro Wx ⟨hS0, hS1, hS2⟩
    clear hS0 hS1
    first | (go_simp; done) | (go_simp; with_reducible rfl)
  (try simp only [Act.put, List.setIfInBounds_toArray, List.set_cons_zero, List.set_cons_succ])
  refine wpAnyH_take (i := 7) (oi := { dst := some 13, op := Op.fieldAddr 74 (Operand.tmp 12) 4, type := 0, pos := "model.go:39", after := #[{ on := 6, ground := Ground.data }], guard := none }) (v := ?_) rfl (by kernel_rfl) (by kernel_rfl) (by kernel_rfl) (fun _ _ _ h => h) (Or.inl ⟨by rfl, ?_⟩) hHeld ?_
  rotate_left
  · rintro Wx ⟨hS0, hS1, hS2⟩
    clear hS0 hS1
    first | (go_simp; done) | (go_simp; with_reducible rfl)
  (try simp only [Act.put, List.setIfInBounds_toArray, List.set_cons_zero, List.set_cons_succ])
  refine wpAnyH_take (i := 8) (oi := { dst := some 14, op := Op.load 3 (Operand.tmp 13), type := 3, pos := "model.go:39", after := #[{ on := 7, ground := Ground.data }], guard := none }) (v := ?_) rfl (by kernel_rfl) (by kernel_rfl) (by kernel_rfl) (fun _ _ _ h => h) (Or.inl ⟨by rfl, ?_⟩) hHeld ?_
  rotate_left
  · rintro Wx ⟨hS0, hS1, hS2⟩
    clear hS0 hS1
    first | (go_simp; done) | (go_simp; with_reducible rfl)
  (try simp only [Act.put, List.setIfInBounds_toArray, List.set_cons_zero, List.set_cons_succ])
  refine wpAnyH_ready (rs := [9]) (by kernel_rfl) (by simp) ?_
  refine AllReadyH.cons (o := { dst := some 15, op := Op.call { callee := Callee.value (Operand.func 41), args := #[Operand.tmp 9, Operand.tmp 10, Operand.tmp 14], argTypes := #[33, 39, 3] }, type := 27, pos := "model.go:39", after := #[{ on := 3, ground := Ground.data }, { on := 4, ground := Ground.data }, { on := 8, ground := Ground.data }], guard := none }) rfl (fun K hK => ?_) AllReadyH.nil
  go_simp
  refine (HD0.out.aside (mdx_keeps fb rb) (HCK.out _)).mono ?_
  rintro e x11 ⟨rfl, h⟩
  have HX11 := Lib.hid h
  clear h
  refine hK.out _ _ ?_ (fun hHeld => ?_)
  · exact ⟨HX11.out.mst, HX11.out.row1, by rw [HX11.out.mrow.cell]; rfl⟩
  clear hK K
  (try simp only [Act.put, List.setIfInBounds_toArray, List.set_cons_zero, List.set_cons_succ])
  refine wpAnyH_take (i := 10) (oi := { dst := some 5, op := Op.assign (Operand.tmp 15), type := 27, pos := "model.go:39", after := #[{ on := 9, ground := Ground.data }, { on := 9, ground := Ground.chain }, { on := 0, ground := Ground.phase }, { on := 1, ground := Ground.phase }, { on := 2, ground := Ground.phase }, { on := 3, ground := Ground.phase }, { on := 4, ground := Ground.phase }, { on := 5, ground := Ground.phase }, { on := 6, ground := Ground.phase }, { on := 7, ground := Ground.phase }, { on := 8, ground := Ground.phase }, { on := 9, ground := Ground.phase }], guard := none }) (v := ?_) rfl (by kernel_rfl) (by kernel_rfl) (by kernel_rfl) (fun _ _ _ h => h) (Or.inl ⟨by rfl, ?_⟩) hHeld ?_
  rotate_left
  · rintro Wx ⟨hS0, hS1, hS2⟩
    clear hS0 hS1
    first | (go_simp; done) | (go_simp; with_reducible rfl)
  (try simp only [Act.put, List.setIfInBounds_toArray, List.set_cons_zero, List.set_cons_succ])
  refine wpAnyH_done (by kernel_rfl) ?_ _
  by_cases hv : v = 0
  case pos =>
    subst hv
    have HE : Hid (opM m o = ((putM m (recO o)).1, 0)) := Lib.hid (by unfold opM; rw [if_pos HV.out.symm])
    go_wp2_with (first | (refine wpList_load_any (by rfl) 39 (.tmp 3) rfl R rfl 39 os (0, 0) _ HX11.out.row1 Tryz.underlying39 rfl (by rw [HZ_os.out]; exact i5) ?_))
    refine (HX11.out.aside (mdx_keeps fb rb) (HRC.out _)).mono ?_
    rintro e y1 ⟨rfl, h⟩
    have HY1 := Lib.hid h
    clear h HX11
    go_wp2_with fail
    refine (HY1.out.turn (fun _ h => pbec_any (recO o) h HKF.out)).mono ?_
    rintro e y2 ⟨rfl, h⟩
    have HY2 := Lib.hid h
    clear h HY1
    go_wp2_with fail
    refine (HY2.out.turn (fun _ h => pflt_any h)).mono ?_
    rintro e y3 ⟨rfl, h⟩
    have HY3 := Lib.hid h
    clear h HY2
    go_wp2
    go_ret
    exact ⟨by rw [HE.out]; rfl, by rw [HE.out]; exact HY3.out.fin⟩
  have e1 : (v == 0) = false := beq_eq_false_iff_ne.2 hv
  have HE : Hid (opM m o = (m, v)) := Lib.hid (by unfold opM; rw [if_neg (by rw [← HV.out]; exact hv), HV.out])
  clear hv
  go_wp2
  go_ret
  exact ⟨by rw [HE.out]; rfl, by rw [HE.out]; exact HX11.out.fin⟩
end
end Go.Proofs.YtchaeidmjoelnaaGreat
