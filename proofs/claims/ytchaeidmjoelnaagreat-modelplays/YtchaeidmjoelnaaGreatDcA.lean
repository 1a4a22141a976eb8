/-
  The document's model in memory: its block, a fleet, a router with its fuse (DcM).
  The document's model's own functions: Put, Reply, Time, Op.
-/
import Derived.Test.YtchaeidmjoelnaaGreatMdH
import Derived.Test.YtchaeidmjoelnaaGreatFlP2
import Derived.Test.YtchaeidmjoelnaaGreatMdC
import Derived.Test.YtchaeidmjoelnaaGreatStOk
import Derived.Test.YtchaeidmjoelnaaGreatMayF
import Derived.Test.YtchaeidmjoelnaaGreatMayC
import Derived.Test.YtchaeidmjoelnaaGreatPlnA
import Derived.Deep.RegionHeld3
import Derived.Deep.Cut
namespace Go.Proofs.YtchaeidmjoelnaaGreat
open Go.RowKit

/-- Cells from place o on are written. -/
def putD (cur : Array Value) (o : Nat) : List Value → Array Value
  | [] => cur
  | v :: vs => putD (cur.setIfInBounds o v) (o + 1) vs
theorem row_setCellsD {b : Nat} {t : TypeId} : ∀ (vs : List Value) (o : Nat) (W : World) (cur : Array Value), Rw W b cur t → Rw (W.setCells b o vs) b (putD cur o vs) t ∧ (W.setCells b o vs).heap.size = W.heap.size ∧ (∀ k, k ≠ b → (W.setCells b o vs).heap[k]? = W.heap[k]?) ∧ (W.setCells b o vs).os = W.os ∧ (W.setCells b o vs).tape = W.tape ∧ (W.setCells b o vs).output = W.output
  | [], _, _, _, h => ⟨h, rfl, fun _ _ => rfl, rfl, rfl, rfl⟩
  | v :: vs, o, W, cur, h => by
    have h1 : Rw (W.setCell ⟨b, o, none⟩ v) b (cur.setIfInBounds o v) t := by
      unfold Rw at h ⊢
      simp [World.setCell, Array.getElem?_modify, h]
    obtain ⟨g1, g2, g3, g4, g5, g6⟩ := row_setCellsD vs (o + 1) (W.setCell ⟨b, o, none⟩ v) _ h1
    exact ⟨g1, g2.trans (by simp [World.setCell]), fun k hk => (g3 k hk).trans (Below.heap_setCell W ⟨b, o, none⟩ v k hk), g4, g5, g6⟩
/-- A model's cells: the state, its fleet, its router, tries, the tick. -/
def dcC (m : Md) (fb rb : Nat) : Array Value := #[.int .i64 m.s.ph, .int .i64 m.s.ac, .int .i64 m.s.r0, .int .i64 m.s.r1, .int .i64 m.s.w0, .int .i64 m.s.w1, .bool m.s.p0, .bool m.s.p1, .int .i64 m.s.dl, .int .i64 m.s.gn, .int .i64 m.s.sw, .int .i64 m.s.fl, ptr fb, ptr rb, .int .i64 m.tries, .int .i64 m.tick]
structure DcM (O : Nat → Prop) (W : World) (b fb rb : Nat) (OF OR : Nat → Prop) (m : Md) : Prop where
  row : Rw W b (dcC m fb rb) 49
  fl : FlM OF W fb m.k m.l
  ro : RoD OR W rb (m.ro, m.fu)
  nf : ¬ OF b
  nr : ¬ OR b
  fr : ∀ j, OF j → ¬ OR j
  ob : O b
  sf : ∀ j, OF j → O j
  sr : ∀ j, OR j → O j
  lt : ∀ j, O j → j < W.heap.size
/-- With its fleet and its router at known blocks; at some. -/
def DcX (fb rb : Nat) : ObIn Md := fun O W b m => ∃ OF OR, DcM O W b fb rb OF OR m
def DcP : ObIn Md := fun O W b m => ∃ fb rb, DcX fb rb O W b m
section
variable {O OF OR : Nat → Prop} {W W' : World} {b fb rb : Nat} {m : Md}
theorem keepD_lt {O : Nat → Prop} (hl : ∀ j, O j → j < W.heap.size) (hk : ∀ j, O j → W'.heap[j]? = W.heap[j]?) : ∀ j, O j → j < W'.heap.size := fun j hj => by
  rcases Nat.lt_or_ge j W'.heap.size with h | h
  · exact h
  · have h7 := hk j hj
    rw [Array.getElem?_eq_none h, Array.getElem?_eq_getElem (hl j hj)] at h7
    cases h7
theorem DcM.keep (h : DcM O W b fb rb OF OR m) (hk : ∀ j, O j → W'.heap[j]? = W.heap[j]?) : DcM O W' b fb rb OF OR m where
  row := (hk b h.ob).trans h.row
  fl := flm_keeps.keep h.fl (fun j hj => hk j (h.sf j hj))
  ro := rod_keeps.keep h.ro (fun j hj => hk j (h.sr j hj))
  nf := h.nf
  nr := h.nr
  fr := h.fr
  ob := h.ob
  sf := h.sf
  sr := h.sr
  lt := keepD_lt h.lt hk
theorem dcx_keeps (fb rb : Nat) : KeepsO (DcX fb rb) where
  lt := fun ⟨_, _, h⟩ => h.lt
  keep := fun ⟨OF, OR, h⟩ hk => ⟨OF, OR, h.keep hk⟩
theorem dcp_keeps : KeepsO DcP where
  lt := fun ⟨_, _, _, _, h⟩ => h.lt
  keep := fun ⟨fb, rb, OF, OR, h⟩ hk => ⟨fb, rb, OF, OR, h.keep hk⟩
/-- Its fleet turned. -/
theorem DcM.fleet {k' l' : List Bool} (h : DcM O W b fb rb OF OR m) (ht : Turn FlM OF W W' fb k' l') : TurnO (DcX fb rb) O W W' b { m with k := k', l := l' } := by
  obtain ⟨OF', g1, g2, g3⟩ := ht
  have hb : ∀ j, O j → ¬ OF j → W'.heap[j]? = W.heap[j]? := fun j hj hn => g3.block j (h.lt j hj) hn
  refine ⟨more O W W', ⟨OF', OR, ⟨(hb b h.ob h.nf).trans h.row, g1, rod_keeps.keep h.ro (fun j hj => hb j (h.sr j hj) (fun hf => h.fr j hf hj)), fun ho => ?_, h.nr, fun j hf hr => ?_, .inl h.ob, fun j hf => ?_, fun j hr => .inl (h.sr j hr), fun j hj => hj.elim (fun e => Nat.lt_of_lt_of_le (h.lt j e) g3.size) And.right⟩⟩, more_sub O W W', ⟨g3.os, g3.tape, g3.output, g3.size, fun j hj hn => g3.block j hj (fun hf => hn (h.sf j hf))⟩⟩
  · rcases g2 b ho with e | e
    · exact h.nf e
    · have := h.lt b h.ob; omega
  · rcases g2 j hf with e | e
    · exact h.fr j e hr
    · have := h.lt j (h.sr j hr); omega
  · rcases g2 j hf with e | e
    · exact .inl (h.sf j e)
    · exact .inr ⟨e, flm_keeps.lt g1 j hf⟩
/-- Its router turned. -/
theorem DcM.router {s' : Ro} {f' : Fu} (h : DcM O W b fb rb OF OR m) (ht : TurnO RoD OR W W' rb (s', f')) : TurnO (DcX fb rb) O W W' b { m with ro := s', fu := f' } := by
  obtain ⟨OR', g1, g2, g3⟩ := ht
  have hb : ∀ j, O j → ¬ OR j → W'.heap[j]? = W.heap[j]? := fun j hj hn => g3.block j (h.lt j hj) hn
  refine ⟨more O W W', ⟨OF, OR', ⟨(hb b h.ob h.nr).trans h.row, flm_keeps.keep h.fl (fun j hj => hb j (h.sf j hj) (h.fr j hj)), g1, h.nf, fun ho => ?_, fun j hf hr => ?_, .inl h.ob, fun j hf => .inl (h.sf j hf), fun j hr => ?_, fun j hj => hj.elim (fun e => Nat.lt_of_lt_of_le (h.lt j e) g3.size) And.right⟩⟩, more_sub O W W', ⟨g3.os, g3.tape, g3.output, g3.size, fun j hj hn => g3.block j hj (fun hf => hn (h.sr j hf))⟩⟩
  · rcases g2 b ho with e | e
    · exact h.nr e
    · have := h.lt b h.ob; omega
  · rcases g2 j hr with e | e
    · exact h.fr j hf e
    · have := h.lt j (h.sf j hf); omega
  · rcases g2 j hr with e | e
    · exact .inl (h.sr j e)
    · exact .inr ⟨e, rod_keeps.lt g1 j hr⟩
/-- Its own block is written. -/
theorem DcM.write {m' : Md} (h : DcM O W b fb rb OF OR m) (h1 : Rw W' b (dcC m' fb rb) 49) (h2 : W'.heap.size = W.heap.size) (h3 : ∀ k, k ≠ b → W'.heap[k]? = W.heap[k]?) (h4 : W'.os = W.os) (h5 : W'.tape = W.tape) (h6 : W'.output = W.output) (e1 : m'.k = m.k) (e2 : m'.l = m.l) (e3 : m'.ro = m.ro) (e4 : m'.fu = m.fu) : TurnO (DcX fb rb) O W W' b m' :=
  ⟨O, ⟨OF, OR, ⟨h1, by rw [e1, e2]; exact flm_keeps.keep h.fl (fun j hj => h3 j (fun e => h.nf (e ▸ hj))), by rw [e3, e4]; exact rod_keeps.keep h.ro (fun j hj => h3 j (fun e => h.nr (e ▸ hj))), h.nf, h.nr, h.fr, h.ob, h.sf, h.sr, fun j hj => by rw [h2]; exact h.lt j hj⟩⟩, fun _ h => .inl h, ⟨h4, h5, h6, Nat.le_of_eq h2.symm, fun j _ hn => h3 j (fun e => hn (e ▸ h.ob))⟩⟩
theorem put_stD (m : Md) (s : St) : putD (dcC m fb rb) 0 (stC s).toList = dcC { m with s := s } fb rb := by kernel_rfl
theorem DcM.state (h : DcM O W b fb rb OF OR m) (s : St) : TurnO (DcX fb rb) O W (W.setCells b 0 (stC s).toList) b { m with s := s } := by
  obtain ⟨g1, g2, g3, g4, g5, g6⟩ := row_setCellsD (stC s).toList 0 W _ h.row
  rw [put_stD] at g1
  exact h.write g1 g2 g3 g4 g5 g6 rfl rfl rfl rfl
theorem DcM.time (h : DcM O W b fb rb OF OR m) (t : Int) : TurnO (DcX fb rb) O W (W.setCell ⟨b, 15, none⟩ (.int .i64 t)) b { m with tick := t } := by
  refine h.write ?_ (by simp [World.setCell]) (fun k hk => Below.heap_setCell W ⟨b, 15, none⟩ _ k hk) rfl rfl rfl rfl rfl rfl rfl
  have h1 := h.row
  unfold Rw at h1 ⊢
  simp [World.setCell, Array.getElem?_modify, h1]
  rfl
end
section
variable {O0 : Nat → Prop} {w W W' : World} {L : List Row} {b fb rb : Nat} {m : Md}
/-- A call on its fleet, on its router. -/
theorem Hold.dfleet {k' l' : List Bool} (h : Hold (DcX fb rb) O0 w W L b m) {f : FuncId} {args : Array Value} {Pe : Ending → Prop} (hc : ∀ OF, FlM OF W fb m.k m.l → Calls Tryz.prog f args W fun e w' => Pe e ∧ Turn FlM OF W w' fb k' l') : Calls Tryz.prog f args W fun e w' => Pe e ∧ Hold (DcX fb rb) O0 w w' L b { m with k := k', l := l' } :=
  h.turn fun _ ⟨OF, _, h1⟩ => (hc OF h1.fl).mono fun _ _ ⟨he, ht⟩ => ⟨he, h1.fleet ht⟩
theorem Hold.drouter {x : Ro × Fu} (h : Hold (DcX fb rb) O0 w W L b m) {f : FuncId} {args : Array Value} {Pe : Ending → Prop} (hc : ∀ OR, RoD OR W rb (m.ro, m.fu) → Calls Tryz.prog f args W fun e w' => Pe e ∧ TurnO RoD OR W w' rb x) : Calls Tryz.prog f args W fun e w' => Pe e ∧ Hold (DcX fb rb) O0 w w' L b { m with ro := x.1, fu := x.2 } :=
  h.turn fun _ ⟨_, OR, h1⟩ => (hc OR h1.ro).mono fun _ _ ⟨he, ht⟩ => ⟨he, h1.router ht⟩
theorem Hold.dstate (h : Hold (DcX fb rb) O0 w W L b m) (s : St) : Hold (DcX fb rb) O0 w (W.setCells b 0 (stC s).toList) L b { m with s := s } := h.step fun _ ⟨_, _, h1⟩ => h1.state s
theorem Hold.dtime (h : Hold (DcX fb rb) O0 w W L b m) (t : Int) : Hold (DcX fb rb) O0 w (W.setCell ⟨b, 15, none⟩ (.int .i64 t)) L b { m with tick := t } := h.step fun _ ⟨_, _, h1⟩ => h1.time t
theorem Hold.drow (h : Hold (DcX fb rb) O0 w W L b m) : Rw W b (dcC m fb rb) 49 := by
  obtain ⟨_, ⟨_, _, h1⟩, _⟩ := h.ex
  exact h1.row
theorem Hold.dst (h : Hold (DcX fb rb) O0 w W L b m) : W.rangeAt b 0 (stC m.s).toList := h.drow.range _ (fun j v hv => by
  match j, hv with
  | 0, hv | 1, hv | 2, hv | 3, hv | 4, hv | 5, hv | 6, hv | 7, hv | 8, hv | 9, hv | 10, hv | 11, hv => exact hv
  | j + 12, hv => simp [stC] at hv)
theorem Hold.dfin (h : Hold (DcX fb rb) O0 w W L b m) : TurnO DcP O0 w W b m := by
  obtain ⟨O, h1, h2, h3⟩ := h.fin
  exact ⟨O, ⟨fb, rb, h1⟩, h2, h3⟩
end
end Go.Proofs.YtchaeidmjoelnaaGreat
namespace Go.Proofs.YtchaeidmjoelnaaGreat
open Go.RowKit

/-- A load of a struct in the middle of a block. -/
theorem exec_load_midD {P : Program} {o : Oper} {a : Act} {w : World} (ty : TypeId) (x : Operand) (ho : o.op = .load ty x) (b off : Nat) (hx : a.eval x = .pointer (some ⟨b, off, none⟩)) (cs : Array Value) (d : TypeDesc) (hc : w.rangeAt b off cs.toList)
    (hu : P.underlying ty = some d) (hd : d.isRow = true) (hi : (P.info? ty).map (·.size) = some cs.size) : (execOp a.eval o).run P w = .ok (.value (.agg cs)) w := by
  unfold execOp
  simp only [ho, hx, Instr.loadAt, Instr.sureAddr, Sem.run_bind, Sem.run_pure, Result.andThen_ok, run_loadVar_mid w b off ty cs.toList d hc hu hd (by simpa using hi)]
section
variable {fb rb b : Nat} {O0 : Nat → Prop} {w W : World} {L : List Row} {m : Md}
theorem Hold.dthere (h : Hold (DcX fb rb) O0 w W L b m) : W.there b 0 12 := fun j hj => by
  have h1 := h.drow
  refine ⟨?_, ?_⟩
  · rw [h1.cell]
    have : (dcC m fb rb).size = 16 := rfl
    rw [Array.getElem?_eq_getElem (by omega)]
    rfl
  · exact h1.fr _
/-- The route. -/
theorem Hold.dcell (h : Hold (DcX fb rb) O0 w W L b m) : W.rangeAt rb 0 [.int .i64 m.ro.slot, .int .i64 m.ro.gen] := by
  obtain ⟨_, ⟨_, _, h1⟩, _⟩ := h.ex
  obtain ⟨g, v, h2, _⟩ := h1.ro
  exact fun j u hu => by
    rw [cell_of_row W rb (0 + j) _ _ _ h2.row]
    match j, hu with
    | 0, hu | 1, hu => exact hu
    | j + 2, hu => simp at hu
end
theorem i2wD : (Tryz.prog.info? 30).map (·.size) = some 2 := by kernel_rfl
theorem i2c : (Tryz.prog.info? 55).map (·.size) = some 2 := by kernel_rfl
set_option maxRecDepth 100000 in
set_option maxHeartbeats 8000000 in
theorem dput_any {O : Nat → Prop} {w : World} {b fb rb : Nat} {m : Md} (r : Rc) (h : DcX fb rb O w b m) (hr : rightS m.s = true) (hk : OkR m.s r) : Calls Tryz.prog 31 #[ptr b, recV r] w fun e w' => e = .returned (.bool (putM m r).2) ∧ TurnO (DcX fb rb) O w w' b (putM m r).1 := by
  obtain ⟨O0, hO0⟩ : ∃ X, X = O := ⟨_, rfl⟩
  rw [← hO0]
  have HH : Hid (Hold (DcX fb rb) O0 w w [] b m) := Lib.hid (Hold.start (by rw [hO0]; exact h))
  obtain ⟨rs, hrs⟩ : ∃ c, c = recC r := ⟨_, rfl⟩
  have HZ_rs : Hid (rs.size = 19) := Lib.hid (by rw [hrs]; rfl)
  obtain ⟨x, hx⟩ : ∃ x, x = stepS m.s r := ⟨_, rfl⟩
  obtain ⟨xc, hxc⟩ : ∃ c, c = stC x.1 := ⟨_, rfl⟩
  obtain ⟨xb, hxb⟩ : ∃ c, c = x.2 := ⟨_, rfl⟩
  have HXC := Lib.hid hxc
  have HZ_xc : Hid (xc.size = 12) := Lib.hid (by rw [hxc]; rfl)
  have H1_xc : Hid (xc.all (·.oneCell') = true) := Lib.hid (by rw [hxc]; exact stC_one _)
  have HST : Hid (∀ W, Calls Tryz.prog 54 #[.agg (stC m.s), .agg rs] W fun e w' => e = .returned (.tuple #[.agg xc, .bool xb]) ∧ Below W.heap.size W w') := Lib.hid (fun W => by
    have h1 := mstep_ok m.s r W hr hk
    rw [← hx] at h1
    unfold StepR stV recV at h1
    rw [← hrs, ← hxc, ← hxb] at h1
    exact h1)
  have HE : Hid (putM m r = (fleetM m x.1, xb)) := Lib.hid (by unfold putM; rw [hxb, hx])
  unfold recV
  rw [← hrs]
  clear hrs hx hxc hxb h hk hr hO0
  go_enter Tryz.func31, Tryz.ntmps31
  go_upto_region 1 with (fail)
  obtain ⟨R, hR⟩ : ∃ X, X = w.heap.size := ⟨_, rfl⟩
  rw [← hR]
  refine name_w (fun V => Hold (DcX fb rb) O0 w V [(R, rs, 85)] b m) (by rw [hR]; exact HH.out.alloc (dcx_keeps fb rb) rs 85) ?_
  clear hR HH
  rintro u0 h
  have HU0 := Lib.hid h
  clear h
  go_cut [5, 6] from 7 (fun sX sB W => ∃ X, sX = ptr X ∧ sB = .bool xb ∧ Hold (DcX fb rb) O0 w W [(X, xc, 33), (R, rs, 85)] b m)
  case first =>
    have HD0 := Lib.hid (HU0.out.drew (dcx_keeps fb rb))
    clear HU0
    refine wp_region_held_drew (S := fun Wx => Wx.rangeAt b 0 (stC m.s).toList ∧ Rw Wx R rs 85) (by kernel_rfl) ⟨HD0.out.dst, HD0.out.row1⟩ (fun hHeld => ?_)
    refine wpAnyH_take (i := 0) (oi := { dst := some 8, op := Op.move (Operand.tmp 0), type := 36, pos := "ref.go:36", after := #[], guard := none }) (v := ?_) rfl (by kernel_rfl) (by kernel_rfl) (by kernel_rfl) (fun _ _ _ h => h) (Or.inl ⟨by rfl, ?_⟩) hHeld ?_
    rotate_left
    · rintro Wx ⟨hS0, hS1⟩
      clear hS0 hS1
      first | (go_simp; done) | (go_simp; with_reducible rfl)
    (try simp only [Act.put, List.setIfInBounds_toArray, List.set_cons_zero, List.set_cons_succ])
    refine wpAnyH_take (i := 1) (oi := { dst := some 9, op := Op.nilCheck (Operand.tmp 8), type := 0, pos := "ref.go:36", after := #[{ on := 0, ground := Ground.data }], guard := none }) (v := ?_) rfl (by kernel_rfl) (by kernel_rfl) (by kernel_rfl) (fun _ _ _ h => h) (Or.inl ⟨by rfl, ?_⟩) hHeld ?_
    rotate_left
    · rintro Wx ⟨hS0, hS1⟩
      clear hS0 hS1
      first | (go_simp; done) | (go_simp; with_reducible rfl)
    (try simp only [Act.put, List.setIfInBounds_toArray, List.set_cons_zero, List.set_cons_succ])
    refine wpAnyH_take (i := 2) (oi := { dst := some 10, op := Op.fieldAddr 49 (Operand.tmp 9) 0, type := 0, pos := "ref.go:36", after := #[{ on := 1, ground := Ground.data }], guard := none }) (v := ?_) rfl (by kernel_rfl) (by kernel_rfl) (by kernel_rfl) (fun _ _ _ h => h) (Or.inl ⟨by rfl, ?_⟩) hHeld ?_
    rotate_left
    · rintro Wx ⟨hS0, hS1⟩
      clear hS0 hS1
      first | (go_simp; done) | (go_simp; with_reducible rfl)
    (try simp only [Act.put, List.setIfInBounds_toArray, List.set_cons_zero, List.set_cons_succ])
    refine wpAnyH_take (i := 3) (oi := { dst := some 11, op := Op.load 33 (Operand.tmp 10), type := 33, pos := "ref.go:36", after := #[{ on := 2, ground := Ground.data }], guard := none }) (v := .agg (stC m.s)) rfl (by kernel_rfl) (by kernel_rfl) (by kernel_rfl) (fun _ _ _ h => h) (Or.inl ⟨by rfl, fun Wx hS => exec_load_midD 33 (.tmp 10) rfl b 0 rfl (stC m.s) _ hS.1 Tryz.underlying33 rfl i12⟩) hHeld ?_
    (try simp only [Act.put, List.setIfInBounds_toArray, List.set_cons_zero, List.set_cons_succ])
    refine wpAnyH_take (i := 4) (oi := { dst := some 12, op := Op.load 85 (Operand.tmp 3), type := 85, pos := "ref.go:36", after := #[], guard := none }) (v := .agg rs) rfl (by kernel_rfl) (by kernel_rfl) (by kernel_rfl) (fun _ _ _ h => h) (Or.inl ⟨by rfl, fun Wx hS => exec_load_row 85 (.tmp 3) rfl R rfl 85 rs (0, 0) _ hS.2 Tryz.underlying85 rfl (by rw [HZ_rs.out]; exact i19)⟩) hHeld ?_
    (try simp only [Act.put, List.setIfInBounds_toArray, List.set_cons_zero, List.set_cons_succ])
    refine wpAnyH_ready (rs := [5, 9]) (by kernel_rfl) (by simp) ?_
    refine AllReadyH.cons (o := { dst := some 13, op := Op.call { callee := Callee.value (Operand.func 54), args := #[Operand.tmp 11, Operand.tmp 12], argTypes := #[33, 85] }, type := 65, pos := "ref.go:36", after := #[{ on := 3, ground := Ground.data }, { on := 4, ground := Ground.data }], guard := none }) rfl (fun K hK => ?_) (AllReadyH.cons (o := { dst := some 5, op := Op.alloc 33, type := 0, pos := "ref.go:36", after := #[], guard := none }) rfl (fun K hK => ?_) AllReadyH.nil)
    · go_simp
      refine (HD0.out.aside (dcx_keeps fb rb) (HST.out _)).mono ?_
      rintro e x1 ⟨rfl, h⟩
      have HX1 := Lib.hid h
      clear h
      refine hK.out _ _ ?_ (fun hHeld => ?_)
      · exact ⟨HX1.out.dst, HX1.out.row1⟩
      clear hK K
      (try simp only [Act.put, List.setIfInBounds_toArray, List.set_cons_zero, List.set_cons_succ])
      refine wpAnyH_take (i := 6) (oi := { dst := some 7, op := Op.move (Operand.tmp 13), type := 65, pos := "ref.go:36", after := #[{ on := 5, ground := Ground.data }], guard := none }) (v := ?_) rfl (by kernel_rfl) (by kernel_rfl) (by kernel_rfl) (fun _ _ _ h => h) (Or.inl ⟨by rfl, ?_⟩) hHeld ?_
      rotate_left
      · rintro Wx ⟨hS0, hS1⟩
        clear hS0 hS1
        first | (go_simp; done) | (go_simp; with_reducible rfl)
      (try simp only [Act.put, List.setIfInBounds_toArray, List.set_cons_zero, List.set_cons_succ])
      refine wpAnyH_take (i := 7) (oi := { dst := some 14, op := Op.extract (Operand.tmp 7) 0, type := 33, pos := "ref.go:36", after := #[{ on := 6, ground := Ground.data }], guard := none }) (v := ?_) rfl (by kernel_rfl) (by kernel_rfl) (by kernel_rfl) (fun _ _ _ h => h) (Or.inl ⟨by rfl, ?_⟩) hHeld ?_
      rotate_left
      · rintro Wx ⟨hS0, hS1⟩
        clear hS0 hS1
        first | (go_simp; done) | (go_simp; with_reducible rfl)
      (try simp only [Act.put, List.setIfInBounds_toArray, List.set_cons_zero, List.set_cons_succ])
      refine wpAnyH_take (i := 8) (oi := { dst := some 15, op := Op.extract (Operand.tmp 7) 1, type := 4, pos := "ref.go:36", after := #[{ on := 6, ground := Ground.data }, { on := 10, ground := Ground.gcOnly Departure.lateStores }], guard := none }) (v := ?_) rfl (by kernel_rfl) (by kernel_rfl) (by kernel_rfl) (fun _ _ _ h => h) (Or.inl ⟨by rfl, ?_⟩) hHeld ?_
      rotate_left
      · rintro Wx ⟨hS0, hS1⟩
        clear hS0 hS1
        first | (go_simp; done) | (go_simp; with_reducible rfl)
      (try simp only [Act.put, List.setIfInBounds_toArray, List.set_cons_zero, List.set_cons_succ])
      refine wpAnyH_ready (rs := [9]) (by kernel_rfl) (by simp) ?_
      refine AllReadyH.cons (o := { dst := some 5, op := Op.alloc 33, type := 0, pos := "ref.go:36", after := #[], guard := none }) rfl (fun K hK => ?_) AllReadyH.nil
      go_simp
      have h : Hold (DcX fb rb) O0 w _ ((x1.heap.size, zeroSC, 33) :: [(R, rs, 85)]) b m := HX1.out.alloc (dcx_keeps fb rb) zeroSC 33
      obtain ⟨X2, hX⟩ : ∃ X, X = x1.heap.size := ⟨_, rfl⟩
      rw [← hX] at h ⊢
      have HX2 := Lib.hid h
      clear h hX
      refine hK.out _ _ ?_ (fun hHeld => ?_)
      · exact ⟨HX2.out.dst, HX2.out.row2⟩
      clear hK K
      (try simp only [Act.put, List.setIfInBounds_toArray, List.set_cons_zero, List.set_cons_succ])
      refine wpAnyH_ready (rs := [10]) (by kernel_rfl) (by simp) ?_
      refine AllReadyH.cons (o := { dst := none, op := Op.store 33 (Operand.tmp 5) (Operand.tmp 14), type := 0, pos := "ref.go:36", after := #[{ on := 9, ground := Ground.data }, { on := 7, ground := Ground.data }, { on := 5, ground := Ground.chain }, { on := 0, ground := Ground.phase }, { on := 1, ground := Ground.phase }, { on := 2, ground := Ground.phase }, { on := 3, ground := Ground.phase }, { on := 4, ground := Ground.phase }, { on := 5, ground := Ground.phase }, { on := 6, ground := Ground.phase }, { on := 7, ground := Ground.phase }, { on := 8, ground := Ground.textOnly Departure.lateStores }, { on := 9, ground := Ground.phase }], guard := none }) rfl (fun K hK => ?_) AllReadyH.nil
      rw [if_pos (by rfl)]
      refine wp_store_row 33 (.tmp 5) (.tmp 14) rfl X2 xc rfl rfl 33 _ HX2.out.row1 (by rw [HZ_xc.out]; exact i12) (by rw [HZ_xc.out]; rfl) H1_xc.out ?_
      have h := HX2.out.setRow (dcx_keeps fb rb) xc
      have HX3 := Lib.hid h
      clear h
      refine hK.out _ _ ?_ (fun hHeld => ?_)
      · exact ⟨HX3.out.dst, HX3.out.row2⟩
      clear hK K
      (try simp only [Act.put])
      refine wpAnyH_take (i := 11) (oi := { dst := some 6, op := Op.assign (Operand.tmp 15), type := 4, pos := "ref.go:36", after := #[{ on := 8, ground := Ground.data }, { on := 10, ground := Ground.chain }, { on := 0, ground := Ground.phase }, { on := 1, ground := Ground.phase }, { on := 2, ground := Ground.phase }, { on := 3, ground := Ground.phase }, { on := 4, ground := Ground.phase }, { on := 5, ground := Ground.phase }, { on := 6, ground := Ground.phase }, { on := 7, ground := Ground.phase }, { on := 8, ground := Ground.phase }, { on := 9, ground := Ground.phase }, { on := 10, ground := Ground.phase }], guard := none }) (v := ?_) rfl (by kernel_rfl) (by kernel_rfl) (by kernel_rfl) (fun _ _ _ h => h) (Or.inl ⟨by rfl, ?_⟩) hHeld ?_
      rotate_left
      · rintro Wx ⟨hS0, hS1⟩
        clear hS0 hS1
        first | (go_simp; done) | (go_simp; with_reducible rfl)
      (try simp only [Act.put, List.setIfInBounds_toArray, List.set_cons_zero, List.set_cons_succ])
      refine wpAnyH_done (by kernel_rfl) ?_ _
      go_wp2
      go_meet
      case rel => exact ⟨X2, rfl, rfl, HX3.out⟩
    · go_simp
      have h : Hold (DcX fb rb) O0 w _ ((u0.heap.size, zeroSC, 33) :: [(R, rs, 85)]) b m := HD0.out.alloc (dcx_keeps fb rb) zeroSC 33
      obtain ⟨X4, hX⟩ : ∃ X, X = u0.heap.size := ⟨_, rfl⟩
      rw [← hX] at h ⊢
      have HX4 := Lib.hid h
      clear h hX
      refine hK.out _ _ ?_ (fun hHeld => ?_)
      · exact ⟨HX4.out.dst, HX4.out.row2⟩
      clear hK K
      (try simp only [Act.put, List.setIfInBounds_toArray, List.set_cons_zero, List.set_cons_succ])
      refine wpAnyH_ready (rs := [5]) (by kernel_rfl) (by simp) ?_
      refine AllReadyH.cons (o := { dst := some 13, op := Op.call { callee := Callee.value (Operand.func 54), args := #[Operand.tmp 11, Operand.tmp 12], argTypes := #[33, 85] }, type := 65, pos := "ref.go:36", after := #[{ on := 3, ground := Ground.data }, { on := 4, ground := Ground.data }], guard := none }) rfl (fun K hK => ?_) AllReadyH.nil
      go_simp
      refine (HX4.out.aside (dcx_keeps fb rb) (HST.out _)).mono ?_
      rintro e x5 ⟨rfl, h⟩
      have HX5 := Lib.hid h
      clear h
      refine hK.out _ _ ?_ (fun hHeld => ?_)
      · exact ⟨HX5.out.dst, HX5.out.row2⟩
      clear hK K
      (try simp only [Act.put, List.setIfInBounds_toArray, List.set_cons_zero, List.set_cons_succ])
      refine wpAnyH_take (i := 6) (oi := { dst := some 7, op := Op.move (Operand.tmp 13), type := 65, pos := "ref.go:36", after := #[{ on := 5, ground := Ground.data }], guard := none }) (v := ?_) rfl (by kernel_rfl) (by kernel_rfl) (by kernel_rfl) (fun _ _ _ h => h) (Or.inl ⟨by rfl, ?_⟩) hHeld ?_
      rotate_left
      · rintro Wx ⟨hS0, hS1⟩
        clear hS0 hS1
        first | (go_simp; done) | (go_simp; with_reducible rfl)
      (try simp only [Act.put, List.setIfInBounds_toArray, List.set_cons_zero, List.set_cons_succ])
      refine wpAnyH_take (i := 7) (oi := { dst := some 14, op := Op.extract (Operand.tmp 7) 0, type := 33, pos := "ref.go:36", after := #[{ on := 6, ground := Ground.data }], guard := none }) (v := ?_) rfl (by kernel_rfl) (by kernel_rfl) (by kernel_rfl) (fun _ _ _ h => h) (Or.inl ⟨by rfl, ?_⟩) hHeld ?_
      rotate_left
      · rintro Wx ⟨hS0, hS1⟩
        clear hS0 hS1
        first | (go_simp; done) | (go_simp; with_reducible rfl)
      (try simp only [Act.put, List.setIfInBounds_toArray, List.set_cons_zero, List.set_cons_succ])
      refine wpAnyH_take (i := 8) (oi := { dst := some 15, op := Op.extract (Operand.tmp 7) 1, type := 4, pos := "ref.go:36", after := #[{ on := 6, ground := Ground.data }, { on := 10, ground := Ground.gcOnly Departure.lateStores }], guard := none }) (v := ?_) rfl (by kernel_rfl) (by kernel_rfl) (by kernel_rfl) (fun _ _ _ h => h) (Or.inl ⟨by rfl, ?_⟩) hHeld ?_
      rotate_left
      · rintro Wx ⟨hS0, hS1⟩
        clear hS0 hS1
        first | (go_simp; done) | (go_simp; with_reducible rfl)
      (try simp only [Act.put, List.setIfInBounds_toArray, List.set_cons_zero, List.set_cons_succ])
      refine wpAnyH_ready (rs := [10]) (by kernel_rfl) (by simp) ?_
      refine AllReadyH.cons (o := { dst := none, op := Op.store 33 (Operand.tmp 5) (Operand.tmp 14), type := 0, pos := "ref.go:36", after := #[{ on := 9, ground := Ground.data }, { on := 7, ground := Ground.data }, { on := 5, ground := Ground.chain }, { on := 0, ground := Ground.phase }, { on := 1, ground := Ground.phase }, { on := 2, ground := Ground.phase }, { on := 3, ground := Ground.phase }, { on := 4, ground := Ground.phase }, { on := 5, ground := Ground.phase }, { on := 6, ground := Ground.phase }, { on := 7, ground := Ground.phase }, { on := 8, ground := Ground.textOnly Departure.lateStores }, { on := 9, ground := Ground.phase }], guard := none }) rfl (fun K hK => ?_) AllReadyH.nil
      rw [if_pos (by rfl)]
      refine wp_store_row 33 (.tmp 5) (.tmp 14) rfl X4 xc rfl rfl 33 _ HX5.out.row1 (by rw [HZ_xc.out]; exact i12) (by rw [HZ_xc.out]; rfl) H1_xc.out ?_
      have h := HX5.out.setRow (dcx_keeps fb rb) xc
      have HX6 := Lib.hid h
      clear h
      refine hK.out _ _ ?_ (fun hHeld => ?_)
      · exact ⟨HX6.out.dst, HX6.out.row2⟩
      clear hK K
      (try simp only [Act.put])
      refine wpAnyH_take (i := 11) (oi := { dst := some 6, op := Op.assign (Operand.tmp 15), type := 4, pos := "ref.go:36", after := #[{ on := 8, ground := Ground.data }, { on := 10, ground := Ground.chain }, { on := 0, ground := Ground.phase }, { on := 1, ground := Ground.phase }, { on := 2, ground := Ground.phase }, { on := 3, ground := Ground.phase }, { on := 4, ground := Ground.phase }, { on := 5, ground := Ground.phase }, { on := 6, ground := Ground.phase }, { on := 7, ground := Ground.phase }, { on := 8, ground := Ground.phase }, { on := 9, ground := Ground.phase }, { on := 10, ground := Ground.phase }], guard := none }) (v := ?_) rfl (by kernel_rfl) (by kernel_rfl) (by kernel_rfl) (fun _ _ _ h => h) (Or.inl ⟨by rfl, ?_⟩) hHeld ?_
      rotate_left
      · rintro Wx ⟨hS0, hS1⟩
        clear hS0 hS1
        first | (go_simp; done) | (go_simp; with_reducible rfl)
      (try simp only [Act.put, List.setIfInBounds_toArray, List.set_cons_zero, List.set_cons_succ])
      refine wpAnyH_done (by kernel_rfl) ?_ _
      go_wp2
      go_meet
      case rel => exact ⟨X4, rfl, rfl, HX6.out⟩
  case rest =>
    clear HU0 HST
    obtain ⟨X, rfl, rfl, h⟩ := hcut
    have H1 := Lib.hid h
    clear h
    go_upto_region 3 with (first | (refine wpList_load_any (by rfl) 33 (.tmp 5) rfl X rfl 33 xc (0, 0) _ H1.out.row1 Tryz.underlying33 rfl (by rw [HZ_xc.out]; exact i12) ?_) | (refine wpList_store_mid rfl 33 (.tmp 19) (.tmp 17) rfl b 0 xc rfl rfl (by rw [HZ_xc.out]; exact H1.out.dthere) (by rw [HZ_xc.out]; exact i12) H1_xc.out ?_))
    refine name_w (fun V => Hold (DcX fb rb) O0 w V [(X, xc, 33), (R, rs, 85)] b { m with s := x.1 }) (by rw [HXC.out]; rw [HXC.out] at H1; exact H1.out.dstate x.1) ?_
    clear H1
    rintro u2 h
    have H2 := Lib.hid h
    clear h
    have HQ : Hid (putM m r = (fleetM { m with s := x.1 } x.1, xb)) := Lib.hid (by rw [HE.out]; rfl)
    obtain ⟨m1, hm1⟩ : ∃ y : Md, y = { m with s := x.1 } := ⟨_, rfl⟩
    rw [← hm1] at H2 HQ
    have HW0 : Hid (m1.s = x.1) := Lib.hid (by rw [hm1])
    clear hm1 HE
    have HD0 := Lib.hid (H2.out.drew (dcx_keeps fb rb))
    clear H2
    refine wp_region_held_drew (S := fun Wx => Wx.cell? ⟨b, 12, none⟩ = some (ptr fb) ∧ Wx.rangeAt X 4 (#[.int .i64 x.1.w0, .int .i64 x.1.w1] : Array Value).toList) (by kernel_rfl) ⟨by rw [HD0.out.drow.cell]; rfl, HD0.out.row1.range _ (fun j v hv => by rw [HXC.out]; match j, hv with | 0, hv | 1, hv => exact hv | j + 2, hv => simp at hv)⟩ (fun hHeld => ?_)
    refine wpAnyH_take (i := 0) (oi := { dst := some 20, op := Op.move (Operand.tmp 0), type := 36, pos := "ref.go:38", after := #[], guard := none }) (v := ?_) rfl (by kernel_rfl) (by kernel_rfl) (by kernel_rfl) (fun _ _ _ h => h) (Or.inl ⟨by rfl, ?_⟩) hHeld ?_
    rotate_left
    · rintro Wx ⟨hS0, hS1⟩
      clear hS1
      first | (go_simp; done) | (go_simp; with_reducible rfl)
    (try simp only [Act.put, List.setIfInBounds_toArray, List.set_cons_zero, List.set_cons_succ])
    refine wpAnyH_take (i := 1) (oi := { dst := some 21, op := Op.nilCheck (Operand.tmp 20), type := 0, pos := "ref.go:38", after := #[{ on := 0, ground := Ground.data }], guard := none }) (v := ?_) rfl (by kernel_rfl) (by kernel_rfl) (by kernel_rfl) (fun _ _ _ h => h) (Or.inl ⟨by rfl, ?_⟩) hHeld ?_
    rotate_left
    · rintro Wx ⟨hS0, hS1⟩
      clear hS1
      first | (go_simp; done) | (go_simp; with_reducible rfl)
    (try simp only [Act.put, List.setIfInBounds_toArray, List.set_cons_zero, List.set_cons_succ])
    refine wpAnyH_take (i := 2) (oi := { dst := some 22, op := Op.fieldAddr 49 (Operand.tmp 21) 1, type := 0, pos := "ref.go:38", after := #[{ on := 1, ground := Ground.data }], guard := none }) (v := ?_) rfl (by kernel_rfl) (by kernel_rfl) (by kernel_rfl) (fun _ _ _ h => h) (Or.inl ⟨by rfl, ?_⟩) hHeld ?_
    rotate_left
    · rintro Wx ⟨hS0, hS1⟩
      clear hS1
      first | (go_simp; done) | (go_simp; with_reducible rfl)
    (try simp only [Act.put, List.setIfInBounds_toArray, List.set_cons_zero, List.set_cons_succ])
    refine wpAnyH_take (i := 3) (oi := { dst := some 23, op := Op.load 46 (Operand.tmp 22), type := 46, pos := "ref.go:38", after := #[{ on := 2, ground := Ground.data }], guard := none }) (v := ?_) rfl (by kernel_rfl) (by kernel_rfl) (by kernel_rfl) (fun _ _ _ h => h) (Or.inl ⟨by rfl, ?_⟩) hHeld ?_
    rotate_left
    · rintro Wx ⟨hS0, hS1⟩
      clear hS1
      first | (go_simp; done) | (go_simp; with_reducible rfl)
    (try simp only [Act.put, List.setIfInBounds_toArray, List.set_cons_zero, List.set_cons_succ])
    refine wpAnyH_take (i := 4) (oi := { dst := some 24, op := Op.fieldAddr 33 (Operand.tmp 5) 3, type := 0, pos := "ref.go:38", after := #[], guard := none }) (v := ?_) rfl (by kernel_rfl) (by kernel_rfl) (by kernel_rfl) (fun _ _ _ h => h) (Or.inl ⟨by rfl, ?_⟩) hHeld ?_
    rotate_left
    · rintro Wx ⟨hS0, hS1⟩
      clear hS1
      first | (go_simp; done) | (go_simp; with_reducible rfl)
    (try simp only [Act.put, List.setIfInBounds_toArray, List.set_cons_zero, List.set_cons_succ])
    refine wpAnyH_take (i := 5) (oi := { dst := some 25, op := Op.load 30 (Operand.tmp 24), type := 30, pos := "ref.go:38", after := #[{ on := 4, ground := Ground.data }], guard := none }) (v := .agg (#[.int .i64 x.1.w0, .int .i64 x.1.w1] : Array Value)) rfl (by kernel_rfl) (by kernel_rfl) (by kernel_rfl) (fun _ _ _ h => h) (Or.inl ⟨by rfl, fun Wx hS => exec_load_midD 30 (.tmp 24) rfl X 4 rfl (#[.int .i64 x.1.w0, .int .i64 x.1.w1] : Array Value) _ hS.2 Tryz.underlying30 rfl i2wD⟩) hHeld ?_
    (try simp only [Act.put, List.setIfInBounds_toArray, List.set_cons_zero, List.set_cons_succ])
    refine wpAnyH_ready (rs := [6]) (by kernel_rfl) (by simp) ?_
    refine AllReadyH.cons (o := { dst := some 26, op := Op.call { callee := Callee.value (Operand.func 28), args := #[Operand.tmp 23, Operand.tmp 25], argTypes := #[46, 30] }, type := 0, pos := "ref.go:38", after := #[{ on := 3, ground := Ground.data }, { on := 5, ground := Ground.data }], guard := none }) rfl (fun K hK => ?_) AllReadyH.nil
    go_simp
    refine (HD0.out.dfleet (fun _ ⟨_, _, _, _, h⟩ => mapply_any x.1.w0 x.1.w1 h)).mono ?_
    rintro e x7 ⟨rfl, h⟩
    have HX7 := Lib.hid h
    clear h
    refine hK.out _ _ ?_ (fun hHeld => ?_)
    · exact ⟨by rw [HX7.out.drow.cell]; rfl, HX7.out.row1.range _ (fun j v hv => by rw [HXC.out]; match j, hv with | 0, hv | 1, hv => exact hv | j + 2, hv => simp at hv)⟩
    clear hK K
    (try simp only [Act.put, List.setIfInBounds_toArray, List.set_cons_zero, List.set_cons_succ])
    refine wpAnyH_done (by kernel_rfl) ?_ _
    go_wp2
    go_ret
    exact ⟨by rw [HQ.out]; rfl, by
      rw [HQ.out]
      have h := HX7.out.fin
      rw [HW0.out] at h
      exact h⟩
theorem view_isD (k l : List Bool) : viewK k l = .agg #[.int .i64 (k.length : Int), .int .i64 (l.length : Int), .int .i64 (cntL k : Int), .int .i64 (cntL l : Int)] := rfl
set_option maxRecDepth 100000 in
set_option maxHeartbeats 8000000 in
theorem dreply_any {O : Nat → Prop} {w : World} {b fb rb : Nat} {m : Md} (h : DcX fb rb O w b m) : Calls Tryz.prog 17 #[ptr b] w fun e w' => e = .returned (repV m) ∧ TurnO (DcX fb rb) O w w' b m := by
  obtain ⟨O0, hO0⟩ : ∃ X, X = O := ⟨_, rfl⟩
  rw [← hO0]
  have HH : Hid (Hold (DcX fb rb) O0 w w [] b m) := Lib.hid (Hold.start (by rw [hO0]; exact h))
  clear h hO0
  go_enter Tryz.func17, Tryz.ntmps17
  go_upto_region 1 with (fail)
  obtain ⟨Z, hZ⟩ : ∃ X, X = w.heap.size := ⟨_, rfl⟩
  rw [← hZ]
  refine name_w (fun V => Hold (DcX fb rb) O0 w V [(Z, #[.int .i64 0, .int .i64 0, .int .i64 0, .int .i64 0, .int .i64 0, .int .i64 0, .int .i64 0, .bool false, .bool false, .int .i64 0, .int .i64 0, .int .i64 0, .int .i64 0, .int .i64 0, .int .i64 0, .int .i64 0, .int .i64 0, .int .i64 0, .int .i64 0, .bool false, .int .i64 0], 59)] b m) (by rw [hZ]; exact HH.out.alloc (dcx_keeps fb rb) _ 59) ?_
  clear hZ HH
  rintro u0 h
  have HD0 := Lib.hid (h.drew (dcx_keeps fb rb))
  clear h
  refine wp_region_held_drew (S := fun Wx => Wx.rangeAt b 0 (stC m.s).toList ∧ Wx.cell? ⟨b, 12, none⟩ = some (ptr fb) ∧ Wx.cell? ⟨b, 13, none⟩ = some (ptr rb) ∧ Wx.cell? ⟨b, 15, none⟩ = some (.int .i64 m.tick) ∧ Wx.rangeAt rb 0 (#[.int .i64 m.ro.slot, .int .i64 m.ro.gen] : Array Value).toList) (by kernel_rfl) ⟨HD0.out.dst, by rw [HD0.out.drow.cell]; rfl, by rw [HD0.out.drow.cell]; rfl, by rw [HD0.out.drow.cell]; rfl, HD0.out.dcell⟩ (fun hHeld => ?_)
  refine wpAnyH_take (i := 0) (oi := { dst := some 3, op := Op.move (Operand.tmp 0), type := 36, pos := "ref.go:84", after := #[], guard := none }) (v := ?_) rfl (by kernel_rfl) (by kernel_rfl) (by kernel_rfl) (fun _ _ _ h => h) (Or.inl ⟨by rfl, ?_⟩) hHeld ?_
  rotate_left
  · rintro Wx ⟨hS0, hS1, hS2, hS3, hS4⟩
    clear hS0 hS4
    first | (go_simp; done) | (go_simp; with_reducible rfl)
  (try simp only [Act.put, List.setIfInBounds_toArray, List.set_cons_zero, List.set_cons_succ])
  refine wpAnyH_take (i := 1) (oi := { dst := some 4, op := Op.nilCheck (Operand.tmp 3), type := 0, pos := "ref.go:84", after := #[{ on := 0, ground := Ground.data }], guard := none }) (v := ?_) rfl (by kernel_rfl) (by kernel_rfl) (by kernel_rfl) (fun _ _ _ h => h) (Or.inl ⟨by rfl, ?_⟩) hHeld ?_
  rotate_left
  · rintro Wx ⟨hS0, hS1, hS2, hS3, hS4⟩
    clear hS0 hS4
    first | (go_simp; done) | (go_simp; with_reducible rfl)
  (try simp only [Act.put, List.setIfInBounds_toArray, List.set_cons_zero, List.set_cons_succ])
  refine wpAnyH_take (i := 2) (oi := { dst := some 5, op := Op.fieldAddr 49 (Operand.tmp 4) 0, type := 0, pos := "ref.go:84", after := #[{ on := 1, ground := Ground.data }], guard := none }) (v := ?_) rfl (by kernel_rfl) (by kernel_rfl) (by kernel_rfl) (fun _ _ _ h => h) (Or.inl ⟨by rfl, ?_⟩) hHeld ?_
  rotate_left
  · rintro Wx ⟨hS0, hS1, hS2, hS3, hS4⟩
    clear hS0 hS4
    first | (go_simp; done) | (go_simp; with_reducible rfl)
  (try simp only [Act.put, List.setIfInBounds_toArray, List.set_cons_zero, List.set_cons_succ])
  refine wpAnyH_take (i := 3) (oi := { dst := some 6, op := Op.load 33 (Operand.tmp 5), type := 33, pos := "ref.go:84", after := #[{ on := 2, ground := Ground.data }], guard := none }) (v := .agg #[.int .i64 m.s.ph, .int .i64 m.s.ac, .int .i64 m.s.r0, .int .i64 m.s.r1, .int .i64 m.s.w0, .int .i64 m.s.w1, .bool m.s.p0, .bool m.s.p1, .int .i64 m.s.dl, .int .i64 m.s.gn, .int .i64 m.s.sw, .int .i64 m.s.fl]) rfl (by kernel_rfl) (by kernel_rfl) (by kernel_rfl) (fun _ _ _ h => h) (Or.inl ⟨by rfl, fun Wx hS => exec_load_midD 33 (.tmp 5) rfl b 0 rfl (stC m.s) _ hS.1 Tryz.underlying33 rfl i12⟩) hHeld ?_
  (try simp only [Act.put, List.setIfInBounds_toArray, List.set_cons_zero, List.set_cons_succ])
  refine wpAnyH_take (i := 4) (oi := { dst := some 7, op := Op.move (Operand.tmp 0), type := 36, pos := "ref.go:84", after := #[], guard := none }) (v := ?_) rfl (by kernel_rfl) (by kernel_rfl) (by kernel_rfl) (fun _ _ _ h => h) (Or.inl ⟨by rfl, ?_⟩) hHeld ?_
  rotate_left
  · rintro Wx ⟨hS0, hS1, hS2, hS3, hS4⟩
    clear hS0 hS4
    first | (go_simp; done) | (go_simp; with_reducible rfl)
  (try simp only [Act.put, List.setIfInBounds_toArray, List.set_cons_zero, List.set_cons_succ])
  refine wpAnyH_take (i := 5) (oi := { dst := some 8, op := Op.nilCheck (Operand.tmp 7), type := 0, pos := "ref.go:84", after := #[{ on := 4, ground := Ground.data }], guard := none }) (v := ?_) rfl (by kernel_rfl) (by kernel_rfl) (by kernel_rfl) (fun _ _ _ h => h) (Or.inl ⟨by rfl, ?_⟩) hHeld ?_
  rotate_left
  · rintro Wx ⟨hS0, hS1, hS2, hS3, hS4⟩
    clear hS0 hS4
    first | (go_simp; done) | (go_simp; with_reducible rfl)
  (try simp only [Act.put, List.setIfInBounds_toArray, List.set_cons_zero, List.set_cons_succ])
  refine wpAnyH_take (i := 6) (oi := { dst := some 9, op := Op.fieldAddr 49 (Operand.tmp 8) 2, type := 0, pos := "ref.go:84", after := #[{ on := 5, ground := Ground.data }], guard := none }) (v := ?_) rfl (by kernel_rfl) (by kernel_rfl) (by kernel_rfl) (fun _ _ _ h => h) (Or.inl ⟨by rfl, ?_⟩) hHeld ?_
  rotate_left
  · rintro Wx ⟨hS0, hS1, hS2, hS3, hS4⟩
    clear hS0 hS4
    first | (go_simp; done) | (go_simp; with_reducible rfl)
  (try simp only [Act.put, List.setIfInBounds_toArray, List.set_cons_zero, List.set_cons_succ])
  refine wpAnyH_take (i := 7) (oi := { dst := some 10, op := Op.load 47 (Operand.tmp 9), type := 47, pos := "ref.go:84", after := #[{ on := 6, ground := Ground.data }], guard := none }) (v := ?_) rfl (by kernel_rfl) (by kernel_rfl) (by kernel_rfl) (fun _ _ _ h => h) (Or.inl ⟨by rfl, ?_⟩) hHeld ?_
  rotate_left
  · rintro Wx ⟨hS0, hS1, hS2, hS3, hS4⟩
    clear hS0 hS4
    first | (go_simp; done) | (go_simp; with_reducible rfl)
  (try simp only [Act.put, List.setIfInBounds_toArray, List.set_cons_zero, List.set_cons_succ])
  refine wpAnyH_take (i := 8) (oi := { dst := some 11, op := Op.nilCheck (Operand.tmp 10), type := 0, pos := "ref.go:84", after := #[{ on := 7, ground := Ground.data }], guard := none }) (v := ?_) rfl (by kernel_rfl) (by kernel_rfl) (by kernel_rfl) (fun _ _ _ h => h) (Or.inl ⟨by rfl, ?_⟩) hHeld ?_
  rotate_left
  · rintro Wx ⟨hS0, hS1, hS2, hS3, hS4⟩
    clear hS0 hS4
    first | (go_simp; done) | (go_simp; with_reducible rfl)
  (try simp only [Act.put, List.setIfInBounds_toArray, List.set_cons_zero, List.set_cons_succ])
  refine wpAnyH_take (i := 9) (oi := { dst := some 12, op := Op.fieldAddr 80 (Operand.tmp 11) 0, type := 0, pos := "ref.go:84", after := #[{ on := 8, ground := Ground.data }], guard := none }) (v := ?_) rfl (by kernel_rfl) (by kernel_rfl) (by kernel_rfl) (fun _ _ _ h => h) (Or.inl ⟨by rfl, ?_⟩) hHeld ?_
  rotate_left
  · rintro Wx ⟨hS0, hS1, hS2, hS3, hS4⟩
    clear hS0 hS4
    first | (go_simp; done) | (go_simp; with_reducible rfl)
  (try simp only [Act.put, List.setIfInBounds_toArray, List.set_cons_zero, List.set_cons_succ])
  refine wpAnyH_take (i := 10) (oi := { dst := some 13, op := Op.load 55 (Operand.tmp 12), type := 55, pos := "ref.go:84", after := #[{ on := 9, ground := Ground.data }], guard := none }) (v := .agg (#[.int .i64 m.ro.slot, .int .i64 m.ro.gen] : Array Value)) rfl (by kernel_rfl) (by kernel_rfl) (by kernel_rfl) (fun _ _ _ h => h) (Or.inl ⟨by rfl, fun Wx hS => exec_load_midD 55 (.tmp 12) rfl rb 0 rfl (#[.int .i64 m.ro.slot, .int .i64 m.ro.gen] : Array Value) _ hS.2.2.2.2 Tryz.underlying55 rfl i2c⟩) hHeld ?_
  (try simp only [Act.put, List.setIfInBounds_toArray, List.set_cons_zero, List.set_cons_succ])
  refine wpAnyH_take (i := 11) (oi := { dst := some 14, op := Op.move (Operand.tmp 0), type := 36, pos := "ref.go:84", after := #[], guard := none }) (v := ?_) rfl (by kernel_rfl) (by kernel_rfl) (by kernel_rfl) (fun _ _ _ h => h) (Or.inl ⟨by rfl, ?_⟩) hHeld ?_
  rotate_left
  · rintro Wx ⟨hS0, hS1, hS2, hS3, hS4⟩
    clear hS0 hS4
    first | (go_simp; done) | (go_simp; with_reducible rfl)
  (try simp only [Act.put, List.setIfInBounds_toArray, List.set_cons_zero, List.set_cons_succ])
  refine wpAnyH_take (i := 12) (oi := { dst := some 15, op := Op.nilCheck (Operand.tmp 14), type := 0, pos := "ref.go:84", after := #[{ on := 11, ground := Ground.data }], guard := none }) (v := ?_) rfl (by kernel_rfl) (by kernel_rfl) (by kernel_rfl) (fun _ _ _ h => h) (Or.inl ⟨by rfl, ?_⟩) hHeld ?_
  rotate_left
  · rintro Wx ⟨hS0, hS1, hS2, hS3, hS4⟩
    clear hS0 hS4
    first | (go_simp; done) | (go_simp; with_reducible rfl)
  (try simp only [Act.put, List.setIfInBounds_toArray, List.set_cons_zero, List.set_cons_succ])
  refine wpAnyH_take (i := 13) (oi := { dst := some 16, op := Op.fieldAddr 49 (Operand.tmp 15) 1, type := 0, pos := "ref.go:84", after := #[{ on := 12, ground := Ground.data }], guard := none }) (v := ?_) rfl (by kernel_rfl) (by kernel_rfl) (by kernel_rfl) (fun _ _ _ h => h) (Or.inl ⟨by rfl, ?_⟩) hHeld ?_
  rotate_left
  · rintro Wx ⟨hS0, hS1, hS2, hS3, hS4⟩
    clear hS0 hS4
    first | (go_simp; done) | (go_simp; with_reducible rfl)
  (try simp only [Act.put, List.setIfInBounds_toArray, List.set_cons_zero, List.set_cons_succ])
  refine wpAnyH_take (i := 14) (oi := { dst := some 17, op := Op.load 46 (Operand.tmp 16), type := 46, pos := "ref.go:84", after := #[{ on := 13, ground := Ground.data }], guard := none }) (v := ?_) rfl (by kernel_rfl) (by kernel_rfl) (by kernel_rfl) (fun _ _ _ h => h) (Or.inl ⟨by rfl, ?_⟩) hHeld ?_
  rotate_left
  · rintro Wx ⟨hS0, hS1, hS2, hS3, hS4⟩
    clear hS0 hS4
    first | (go_simp; done) | (go_simp; with_reducible rfl)
  (try simp only [Act.put, List.setIfInBounds_toArray, List.set_cons_zero, List.set_cons_succ])
  refine wpAnyH_take (i := 16) (oi := { dst := some 19, op := Op.move (Operand.tmp 0), type := 36, pos := "ref.go:84", after := #[], guard := none }) (v := ?_) rfl (by kernel_rfl) (by kernel_rfl) (by kernel_rfl) (fun _ _ _ h => h) (Or.inl ⟨by rfl, ?_⟩) hHeld ?_
  rotate_left
  · rintro Wx ⟨hS0, hS1, hS2, hS3, hS4⟩
    clear hS0 hS4
    first | (go_simp; done) | (go_simp; with_reducible rfl)
  (try simp only [Act.put, List.setIfInBounds_toArray, List.set_cons_zero, List.set_cons_succ])
  refine wpAnyH_take (i := 17) (oi := { dst := some 20, op := Op.nilCheck (Operand.tmp 19), type := 0, pos := "ref.go:84", after := #[{ on := 16, ground := Ground.data }], guard := none }) (v := ?_) rfl (by kernel_rfl) (by kernel_rfl) (by kernel_rfl) (fun _ _ _ h => h) (Or.inl ⟨by rfl, ?_⟩) hHeld ?_
  rotate_left
  · rintro Wx ⟨hS0, hS1, hS2, hS3, hS4⟩
    clear hS0 hS4
    first | (go_simp; done) | (go_simp; with_reducible rfl)
  (try simp only [Act.put, List.setIfInBounds_toArray, List.set_cons_zero, List.set_cons_succ])
  refine wpAnyH_take (i := 18) (oi := { dst := some 21, op := Op.fieldAddr 49 (Operand.tmp 20) 4, type := 0, pos := "ref.go:84", after := #[{ on := 17, ground := Ground.data }], guard := none }) (v := ?_) rfl (by kernel_rfl) (by kernel_rfl) (by kernel_rfl) (fun _ _ _ h => h) (Or.inl ⟨by rfl, ?_⟩) hHeld ?_
  rotate_left
  · rintro Wx ⟨hS0, hS1, hS2, hS3, hS4⟩
    clear hS0 hS4
    first | (go_simp; done) | (go_simp; with_reducible rfl)
  (try simp only [Act.put, List.setIfInBounds_toArray, List.set_cons_zero, List.set_cons_succ])
  refine wpAnyH_take (i := 19) (oi := { dst := some 22, op := Op.load 3 (Operand.tmp 21), type := 3, pos := "ref.go:84", after := #[{ on := 18, ground := Ground.data }], guard := none }) (v := ?_) rfl (by kernel_rfl) (by kernel_rfl) (by kernel_rfl) (fun _ _ _ h => h) (Or.inl ⟨by rfl, ?_⟩) hHeld ?_
  rotate_left
  · rintro Wx ⟨hS0, hS1, hS2, hS3, hS4⟩
    clear hS0 hS4
    first | (go_simp; done) | (go_simp; with_reducible rfl)
  (try simp only [Act.put, List.setIfInBounds_toArray, List.set_cons_zero, List.set_cons_succ])
  refine wpAnyH_ready (rs := [15]) (by kernel_rfl) (by simp) ?_
  refine AllReadyH.cons (o := { dst := some 18, op := Op.call { callee := Callee.value (Operand.func 35), args := #[Operand.tmp 17], argTypes := #[46] }, type := 57, pos := "ref.go:84", after := #[{ on := 14, ground := Ground.data }], guard := none }) rfl (fun K hK => ?_) AllReadyH.nil
  go_simp
  refine (HD0.out.look (dcx_keeps fb rb) (fun _ ⟨_, _, h⟩ => by
    obtain ⟨_, _, _, _, h2⟩ := h.fl
    have h3 := mview_any h2
    rw [view_isD] at h3
    exact h3)).mono ?_
  rintro e x8 ⟨rfl, h⟩
  have HX8 := Lib.hid h
  clear h
  refine hK.out _ _ ?_ (fun hHeld => ?_)
  · exact ⟨HX8.out.dst, by rw [HX8.out.drow.cell]; rfl, by rw [HX8.out.drow.cell]; rfl, by rw [HX8.out.drow.cell]; rfl, HX8.out.dcell⟩
  clear hK K
  (try simp only [Act.put, List.setIfInBounds_toArray, List.set_cons_zero, List.set_cons_succ])
  refine wpAnyH_take (i := 20) (oi := { dst := some 23, op := Op.build 59 #[(1, Operand.tmp 6), (2, Operand.tmp 13), (3, Operand.tmp 18), (5, Operand.tmp 22), (4, Operand.const (Value.bool true))], type := 59, pos := "ref.go:84", after := #[{ on := 3, ground := Ground.data }, { on := 10, ground := Ground.data }, { on := 15, ground := Ground.data }, { on := 19, ground := Ground.data }], guard := none }) (v := ?_) rfl (by kernel_rfl) (by kernel_rfl) (by kernel_rfl) (fun _ _ _ h => h) (Or.inl ⟨by rfl, ?_⟩) hHeld ?_
  rotate_left
  · rintro Wx ⟨hS0, hS1, hS2, hS3, hS4⟩
    clear hS0 hS4
    first | (go_simp; done) | (go_simp; with_reducible rfl)
  (try simp only [Act.put, List.setIfInBounds_toArray, List.set_cons_zero, List.set_cons_succ])
  refine wpAnyH_ready (rs := [21]) (by kernel_rfl) (by simp) ?_
  refine AllReadyH.cons (o := { dst := none, op := Op.store 59 (Operand.tmp 2) (Operand.tmp 23), type := 0, pos := "ref.go:84", after := #[{ on := 20, ground := Ground.data }, { on := 15, ground := Ground.chain }, { on := 0, ground := Ground.phase }, { on := 1, ground := Ground.phase }, { on := 2, ground := Ground.phase }, { on := 3, ground := Ground.phase }, { on := 4, ground := Ground.phase }, { on := 5, ground := Ground.phase }, { on := 6, ground := Ground.phase }, { on := 7, ground := Ground.phase }, { on := 8, ground := Ground.phase }, { on := 9, ground := Ground.phase }, { on := 10, ground := Ground.phase }, { on := 11, ground := Ground.phase }, { on := 12, ground := Ground.phase }, { on := 13, ground := Ground.phase }, { on := 14, ground := Ground.phase }, { on := 15, ground := Ground.phase }, { on := 16, ground := Ground.phase }, { on := 17, ground := Ground.phase }, { on := 18, ground := Ground.phase }, { on := 19, ground := Ground.phase }, { on := 20, ground := Ground.phase }], guard := none }) rfl (fun K hK => ?_) AllReadyH.nil
  rw [if_pos (by rfl)]
  refine wp_store_row 59 (.tmp 2) (.tmp 23) rfl Z (repC m) rfl rfl 59 _ HX8.out.row1 i21 rfl (repC_one _) ?_
  have h := HX8.out.setRow (dcx_keeps fb rb) (repC m)
  have HX9 := Lib.hid h
  clear h
  refine hK.out _ _ ?_ (fun hHeld => ?_)
  · exact ⟨HX9.out.dst, by rw [HX9.out.drow.cell]; rfl, by rw [HX9.out.drow.cell]; rfl, by rw [HX9.out.drow.cell]; rfl, HX9.out.dcell⟩
  clear hK K
  (try simp only [Act.put])
  refine wpAnyH_done (by kernel_rfl) ?_ _
  go_wp2
  refine bodyPost_ret (results_cell_row rfl _ _ Z 59 (repC m) (0, 0) _ rfl HX9.out.row1 Tryz.underlying59 rfl i21) rfl ?_
  exact ⟨rfl, HX9.out.fin⟩
def upD (n : Int) : Int := max n 0
set_option maxHeartbeats 1000000 in
theorem upD_any (n : Int) (w : World) (h : Fits n) : Calls Tryz.prog 60 #[.int .i64 n] w fun e w' => e = .returned (.int .u64 (upD n)) ∧ w = w' := by
  unfold Fits at h
  by_cases h1 : n < 0
  · go_enter Tryz.func60, Tryz.ntmps60
    go_wp2
    go_ret
    exact ⟨ret_int (by unfold upD; omega), rfl⟩
  · have h2 : 0 ≤ n := by omega
    have q : IntKind.u64.wrap n = n := by rw [u64w]; omega
    go_enter Tryz.func60, Tryz.ntmps60
    go_wp2
    go_ret
    exact ⟨ret_int (by unfold upD; simp only [u64w] at *; omega), rfl⟩
set_option maxRecDepth 100000 in
set_option maxHeartbeats 1000000 in
theorem dadd_any (a b : Int) (w : World) (ha : 0 ≤ a ∧ a ≤ 1073741824) (hb : Fits b) : Calls Tryz.prog 37 #[.int .i64 a, .int .i64 b, .int .i64 1073741824] w fun e w' => e = .returned (.int .i64 (addI a b 1073741824)) ∧ Below w.heap.size w w' := by
  have HA : Hid (∀ W, Calls Tryz.prog 60 #[.int .i64 a] W fun e w' => e = .returned (.int .u64 a) ∧ W = w') := Lib.hid (fun W => by
    have h := upD_any a W (by unfold Fits; omega)
    rw [show upD a = a by unfold upD; omega] at h
    exact h)
  obtain ⟨x, hx⟩ : ∃ x, x = upD b := ⟨_, rfl⟩
  have hx1 : 0 ≤ x ∧ x ≤ 9223372036854775807 := by rw [hx]; unfold upD; unfold Fits at hb; omega
  have HE : Hid (addI a b 1073741824 = if 1073741824 < a + x then 1073741824 else a + x) := Lib.hid (by rw [hx]; unfold addI upD; split <;> omega)
  have HB : Hid (∀ W, Calls Tryz.prog 60 #[.int .i64 b] W fun e w' => e = .returned (.int .u64 x) ∧ W = w') := Lib.hid (fun W => by rw [hx]; exact upD_any b W hb)
  have HM : Hid (∀ W, Calls Tryz.prog 60 #[.int .i64 1073741824] W fun e w' => e = .returned (.int .u64 1073741824) ∧ W = w') := Lib.hid (fun W => upD_any 1073741824 W (by unfold Fits; omega))
  have q1 : IntKind.u64.wrap (a + x) = a + x := by rw [u64w]; omega
  obtain ⟨y, hy⟩ : ∃ y, y = a + x := ⟨_, rfl⟩
  have HY := Lib.hid hy
  rw [← hy] at HE q1
  have hy1 : 0 ≤ y ∧ y ≤ 9223372037928517631 := by omega
  by_cases h1 : 1073741824 < y
  · have HQ : Hid (addI a b 1073741824 = 1073741824) := Lib.hid (by rw [HE.out, if_pos h1])
    have e1 : decide (1073741824 < y) = true := decide_eq_true h1
    clear hx ha hb HE
    go_enter Tryz.func37, Tryz.ntmps37
    go_wp2_with (first | (go_at_call 60; refine (HA.out _).mono ?_; rintro e w1 ⟨rfl, rfl⟩) | (go_at_call 60; refine (HB.out _).mono ?_; rintro e w1 ⟨rfl, rfl⟩) | (go_at_call 60; refine (HM.out _).mono ?_; rintro e w1 ⟨rfl, rfl⟩))
    all_goals go_ret
    all_goals exact ⟨by rw [HQ.out]; rfl, Below.refl _ _⟩
  · have HQ : Hid (addI a b 1073741824 = y) := Lib.hid (by rw [HE.out, if_neg h1])
    have e1 : decide (1073741824 < y) = false := decide_eq_false h1
    have q2 : IntKind.i64.wrap y = y := IntWalk.i64_in _ (by omega)
    clear hx ha hb HE
    go_enter Tryz.func37, Tryz.ntmps37
    go_wp2_with (first | (go_at_call 60; refine (HA.out _).mono ?_; rintro e w1 ⟨rfl, rfl⟩) | (go_at_call 60; refine (HB.out _).mono ?_; rintro e w1 ⟨rfl, rfl⟩) | (go_at_call 60; refine (HM.out _).mono ?_; rintro e w1 ⟨rfl, rfl⟩))
    all_goals go_ret
    all_goals exact ⟨by rw [HQ.out, HY.out]; rfl, Below.refl _ _⟩
set_option maxRecDepth 100000 in
set_option maxHeartbeats 8000000 in
theorem dtick_m {O : Nat → Prop} {w : World} {b fb rb : Nat} {m : Md} (n : Int) (h : DcX fb rb O w b m) (ht : 0 ≤ m.tick ∧ m.tick ≤ 1073741824) (hn : Fits n) : Calls Tryz.prog 14 #[ptr b, .int .i64 n] w fun e w' => e = .returned (.tuple #[]) ∧ TurnO (DcX fb rb) O w w' b (tickM m n) := by
  obtain ⟨O0, hO0⟩ : ∃ X, X = O := ⟨_, rfl⟩
  rw [← hO0]
  have HH : Hid (Hold (DcX fb rb) O0 w w [] b m) := Lib.hid (Hold.start (by rw [hO0]; exact h))
  clear h hO0
  have c15 : w.cell? ⟨b, 15, none⟩ = some (.int .i64 m.tick) := by rw [HH.out.drow.cell]; rfl
  have HAD := Lib.hid (dadd_any m.tick n w ht hn)
  clear ht hn
  go_enter Tryz.func14, Tryz.ntmps14
  go_wp2_with fail
  refine (HH.out.aside (dcx_keeps fb rb) HAD.out).mono ?_
  rintro e w1 ⟨rfl, h⟩
  have H1 := Lib.hid h
  have f15 := h.drow.fr 15
  have d15 : w1.cell? ⟨b, 15, none⟩ = some (.int .i64 m.tick) := by rw [h.drow.cell]; rfl
  clear h HH c15 HAD
  go_wp2
  go_end0
  exact ⟨rfl, (H1.out.dtime _).fin⟩
set_option maxRecDepth 100000 in
set_option maxHeartbeats 8000000 in
theorem dop_m {O : Nat → Prop} {w : World} {b fb rb : Nat} {m : Md} (o : Oc) (h : DcX fb rb O w b m) (hI : MdI m) : Calls Tryz.prog 10 #[ptr b, opV o] w fun e w' => e = .returned (.int .i64 (opM m o).2) ∧ TurnO (DcX fb rb) O w w' b (opM m o).1 := by
  obtain ⟨O0, hO0⟩ : ∃ X, X = O := ⟨_, rfl⟩
  rw [← hO0]
  have HH : Hid (Hold (DcX fb rb) O0 w w [] b m) := Lib.hid (Hold.start (by rw [hO0]; exact h))
  clear h hO0
  obtain ⟨v, hv⟩ : ∃ v, v = chkS m.s o m.tick := ⟨_, rfl⟩
  have HV := Lib.hid hv
  have HRI := Lib.hid hI.right
  obtain ⟨os, hos⟩ : ∃ c, c = opC o := ⟨_, rfl⟩
  have HZ_os : Hid (os.size = 5) := Lib.hid (by rw [hos]; rfl)
  have HCK : Hid (∀ W, Calls Tryz.prog 30 #[.agg (stC m.s), .agg os, .int .i64 m.tick] W fun e w' => e = .returned (.int .i64 v) ∧ Below W.heap.size W w') := Lib.hid (fun W => by
    rw [hv, hos]
    exact mcheck_any m.s o m.tick W (right_in hI.right).1)
  have HRC : Hid (∀ W, Calls Tryz.prog 32 #[.agg os] W fun e w' => e = .returned (recV (recO o)) ∧ Below W.heap.size W w') := Lib.hid (fun W => by
    rw [hos]
    exact mrecord_any o W)
  unfold opV
  rw [← hos]
  clear hv hos hI
  go_enter Tryz.func10, Tryz.ntmps10
  go_upto_region 1 with (fail)
  obtain ⟨R, hR⟩ : ∃ X, X = w.heap.size := ⟨_, rfl⟩
  rw [← hR]
  refine name_w (fun V => Hold (DcX fb rb) O0 w V [(R, os, 39)] b m) (by rw [hR]; exact HH.out.alloc (dcx_keeps fb rb) os 39) ?_
  clear hR HH
  rintro u0 h
  have HD0 := Lib.hid (h.drew (dcx_keeps fb rb))
  clear h
  refine wp_region_held_drew (S := fun Wx => Wx.rangeAt b 0 (stC m.s).toList ∧ Rw Wx R os 39 ∧ Wx.cell? ⟨b, 15, none⟩ = some (.int .i64 m.tick)) (by kernel_rfl) ⟨HD0.out.dst, HD0.out.row1, by rw [HD0.out.drow.cell]; rfl⟩ (fun hHeld => ?_)
  refine wpAnyH_take (i := 0) (oi := { dst := some 6, op := Op.move (Operand.tmp 0), type := 36, pos := "ref.go:44", after := #[], guard := none }) (v := ?_) rfl (by kernel_rfl) (by kernel_rfl) (by kernel_rfl) (fun _ _ _ h => h) (Or.inl ⟨by rfl, ?_⟩) hHeld ?_
  rotate_left
  · rintro Wx ⟨hS0, hS1, hS2⟩
    clear hS0 hS1
    first | (go_simp; done) | (go_simp; with_reducible rfl)
  (try simp only [Act.put, List.setIfInBounds_toArray, List.set_cons_zero, List.set_cons_succ])
  refine wpAnyH_take (i := 1) (oi := { dst := some 7, op := Op.nilCheck (Operand.tmp 6), type := 0, pos := "ref.go:44", after := #[{ on := 0, ground := Ground.data }], guard := none }) (v := ?_) rfl (by kernel_rfl) (by kernel_rfl) (by kernel_rfl) (fun _ _ _ h => h) (Or.inl ⟨by rfl, ?_⟩) hHeld ?_
  rotate_left
  · rintro Wx ⟨hS0, hS1, hS2⟩
    clear hS0 hS1
    first | (go_simp; done) | (go_simp; with_reducible rfl)
  (try simp only [Act.put, List.setIfInBounds_toArray, List.set_cons_zero, List.set_cons_succ])
  refine wpAnyH_take (i := 2) (oi := { dst := some 8, op := Op.fieldAddr 49 (Operand.tmp 7) 0, type := 0, pos := "ref.go:44", after := #[{ on := 1, ground := Ground.data }], guard := none }) (v := ?_) rfl (by kernel_rfl) (by kernel_rfl) (by kernel_rfl) (fun _ _ _ h => h) (Or.inl ⟨by rfl, ?_⟩) hHeld ?_
  rotate_left
  · rintro Wx ⟨hS0, hS1, hS2⟩
    clear hS0 hS1
    first | (go_simp; done) | (go_simp; with_reducible rfl)
  (try simp only [Act.put, List.setIfInBounds_toArray, List.set_cons_zero, List.set_cons_succ])
  refine wpAnyH_take (i := 3) (oi := { dst := some 9, op := Op.load 33 (Operand.tmp 8), type := 33, pos := "ref.go:44", after := #[{ on := 2, ground := Ground.data }], guard := none }) (v := .agg (stC m.s)) rfl (by kernel_rfl) (by kernel_rfl) (by kernel_rfl) (fun _ _ _ h => h) (Or.inl ⟨by rfl, fun Wx hS => exec_load_midD 33 (.tmp 8) rfl b 0 rfl (stC m.s) _ hS.1 Tryz.underlying33 rfl i12⟩) hHeld ?_
  (try simp only [Act.put, List.setIfInBounds_toArray, List.set_cons_zero, List.set_cons_succ])
  refine wpAnyH_take (i := 4) (oi := { dst := some 10, op := Op.load 39 (Operand.tmp 3), type := 39, pos := "ref.go:44", after := #[], guard := none }) (v := .agg os) rfl (by kernel_rfl) (by kernel_rfl) (by kernel_rfl) (fun _ _ _ h => h) (Or.inl ⟨by rfl, fun Wx hS => exec_load_row 39 (.tmp 3) rfl R rfl 39 os (0, 0) _ hS.2.1 Tryz.underlying39 rfl (by rw [HZ_os.out]; exact i5)⟩) hHeld ?_
  (try simp only [Act.put, List.setIfInBounds_toArray, List.set_cons_zero, List.set_cons_succ])
  refine wpAnyH_take (i := 5) (oi := { dst := some 11, op := Op.move (Operand.tmp 0), type := 36, pos := "ref.go:44", after := #[], guard := none }) (v := ?_) rfl (by kernel_rfl) (by kernel_rfl) (by kernel_rfl) (fun _ _ _ h => h) (Or.inl ⟨by rfl, ?_⟩) hHeld ?_
  rotate_left
  · rintro Wx ⟨hS0, hS1, hS2⟩
    clear hS0 hS1
    first | (go_simp; done) | (go_simp; with_reducible rfl)
  (try simp only [Act.put, List.setIfInBounds_toArray, List.set_cons_zero, List.set_cons_succ])
  refine wpAnyH_take (i := 6) (oi := { dst := some 12, op := Op.nilCheck (Operand.tmp 11), type := 0, pos := "ref.go:44", after := #[{ on := 5, ground := Ground.data }], guard := none }) (v := ?_) rfl (by kernel_rfl) (by kernel_rfl) (by kernel_rfl) (fun _ _ _ h => h) (Or.inl ⟨by rfl, ?_⟩) hHeld ?_
  rotate_left
  · rintro Wx ⟨hS0, hS1, hS2⟩
    clear hS0 hS1
    first | (go_simp; done) | (go_simp; with_reducible rfl)
  (try simp only [Act.put, List.setIfInBounds_toArray, List.set_cons_zero, List.set_cons_succ])
  refine wpAnyH_take (i := 7) (oi := { dst := some 13, op := Op.fieldAddr 49 (Operand.tmp 12) 4, type := 0, pos := "ref.go:44", after := #[{ on := 6, ground := Ground.data }], guard := none }) (v := ?_) rfl (by kernel_rfl) (by kernel_rfl) (by kernel_rfl) (fun _ _ _ h => h) (Or.inl ⟨by rfl, ?_⟩) hHeld ?_
  rotate_left
  · rintro Wx ⟨hS0, hS1, hS2⟩
    clear hS0 hS1
    first | (go_simp; done) | (go_simp; with_reducible rfl)
  (try simp only [Act.put, List.setIfInBounds_toArray, List.set_cons_zero, List.set_cons_succ])
  refine wpAnyH_take (i := 8) (oi := { dst := some 14, op := Op.load 3 (Operand.tmp 13), type := 3, pos := "ref.go:44", after := #[{ on := 7, ground := Ground.data }], guard := none }) (v := ?_) rfl (by kernel_rfl) (by kernel_rfl) (by kernel_rfl) (fun _ _ _ h => h) (Or.inl ⟨by rfl, ?_⟩) hHeld ?_
  rotate_left
  · rintro Wx ⟨hS0, hS1, hS2⟩
    clear hS0 hS1
    first | (go_simp; done) | (go_simp; with_reducible rfl)
  (try simp only [Act.put, List.setIfInBounds_toArray, List.set_cons_zero, List.set_cons_succ])
  refine wpAnyH_ready (rs := [9]) (by kernel_rfl) (by simp) ?_
  refine AllReadyH.cons (o := { dst := some 15, op := Op.call { callee := Callee.value (Operand.func 30), args := #[Operand.tmp 9, Operand.tmp 10, Operand.tmp 14], argTypes := #[33, 39, 3] }, type := 3, pos := "ref.go:44", after := #[{ on := 3, ground := Ground.data }, { on := 4, ground := Ground.data }, { on := 8, ground := Ground.data }], guard := none }) rfl (fun K hK => ?_) AllReadyH.nil
  go_simp
  refine (HD0.out.aside (dcx_keeps fb rb) (HCK.out _)).mono ?_
  rintro e x10 ⟨rfl, h⟩
  have HX10 := Lib.hid h
  clear h
  refine hK.out _ _ ?_ (fun hHeld => ?_)
  · exact ⟨HX10.out.dst, HX10.out.row1, by rw [HX10.out.drow.cell]; rfl⟩
  clear hK K
  (try simp only [Act.put, List.setIfInBounds_toArray, List.set_cons_zero, List.set_cons_succ])
  refine wpAnyH_take (i := 10) (oi := { dst := some 5, op := Op.assign (Operand.tmp 15), type := 3, pos := "ref.go:44", after := #[{ on := 9, ground := Ground.data }, { on := 9, ground := Ground.chain }, { on := 0, ground := Ground.phase }, { on := 1, ground := Ground.phase }, { on := 2, ground := Ground.phase }, { on := 3, ground := Ground.phase }, { on := 4, ground := Ground.phase }, { on := 5, ground := Ground.phase }, { on := 6, ground := Ground.phase }, { on := 7, ground := Ground.phase }, { on := 8, ground := Ground.phase }, { on := 9, ground := Ground.phase }], guard := none }) (v := ?_) rfl (by kernel_rfl) (by kernel_rfl) (by kernel_rfl) (fun _ _ _ h => h) (Or.inl ⟨by rfl, ?_⟩) hHeld ?_
  rotate_left
  · rintro Wx ⟨hS0, hS1, hS2⟩
    clear hS0 hS1
    first | (go_simp; done) | (go_simp; with_reducible rfl)
  (try simp only [Act.put, List.setIfInBounds_toArray, List.set_cons_zero, List.set_cons_succ])
  refine wpAnyH_done (by kernel_rfl) ?_ _
  by_cases hv : v = 0
  case pos =>
    subst hv
    have HE : Hid (opM m o = ((putM m (recO o)).1, 0)) := Lib.hid (by unfold opM; rw [if_pos HV.out.symm])
    have HOK : Hid (OkR m.s (recO o)) := Lib.hid (.inl (may_step HRI.out HV.out.symm))
    go_wp2_with (first | (refine wpList_load_any (by rfl) 39 (.tmp 3) rfl R rfl 39 os (0, 0) _ HX10.out.row1 Tryz.underlying39 rfl (by rw [HZ_os.out]; exact i5) ?_))
    refine (HX10.out.aside (dcx_keeps fb rb) (HRC.out _)).mono ?_
    rintro e y1 ⟨rfl, h⟩
    have HY1 := Lib.hid h
    clear h HX10
    go_wp2_with fail
    refine (HY1.out.turn (fun _ h => dput_any (recO o) h HRI.out HOK.out)).mono ?_
    rintro e y2 ⟨rfl, h⟩
    have HY2 := Lib.hid h
    clear h HY1
    go_wp2
    go_ret
    exact ⟨by rw [HE.out]; rfl, by rw [HE.out]; exact HY2.out.fin⟩
  have e1 : (v == 0) = false := beq_eq_false_iff_ne.2 hv
  have HE : Hid (opM m o = (m, v)) := Lib.hid (by unfold opM; rw [if_neg (by rw [← HV.out]; exact hv), HV.out])
  clear hv
  go_wp2
  go_ret
  exact ⟨by rw [HE.out]; rfl, by rw [HE.out]; exact HX10.out.fin⟩
end Go.Proofs.YtchaeidmjoelnaaGreat
