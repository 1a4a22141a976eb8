/-
  Package replica in memory: one block, a count and 32 bools; its calls are what the document says.
-/
import Derived.Test.YtchaeidmjoelnaaGreatRepA
import Derived.Lib.SliceRun
import Derived.Deep.WholeRow
import Derived.Deep.LoopGhost
import Derived.Deep.QuietTactic
import Derived.Deep.RegionHeld3
import Derived.BigQuiet
namespace Go.Proofs.YtchaeidmjoelnaaGreat
open Go.RowKit

theorem i44 : (Tryz.prog.info? 127).map (·.size) = some 33 := by kernel_rfl
theorem i42 : (Tryz.prog.info? 125).map (·.size) = some 32 := by kernel_rfl
theorem u44 : Tryz.prog.underlying 127 = some (.struct (Tryz.prog.fieldsOf 127)) := by kernel_rfl
theorem u42 : Tryz.prog.underlying 125 = some (.array 32 4) := by kernel_rfl
/-- A Set of the package: its count, and its 32 bools, of which those beyond the count are false. -/
structure RsP (W : World) (b : Nat) (l : List Bool) : Prop where
  blk : ∃ cur, W.heap[b]? = some (.cells cur 127 (0, 0)) ∧ cur.size = 33
  c0 : W.cell? ⟨b, 0, none⟩ = some (.int .i64 (l.length : Int))
  ck : ∀ k, k < 32 → W.cell? ⟨b, 1 + k, none⟩ = some (.bool (l.getD k false))
  le : l.length ≤ 32
section
variable {W W' : World} {b : Nat} {l : List Bool}
theorem RsP.keep (h : RsP W b l) (hb : W'.heap[b]? = W.heap[b]?) : RsP W' b l := by
  have hc : ∀ k, W'.cell? ⟨b, k, none⟩ = W.cell? ⟨b, k, none⟩ := fun k => World.cell?_of_block (a := ⟨b, k, none⟩) hb
  obtain ⟨cur, h1, h2⟩ := h.blk
  exact ⟨⟨cur, hb.trans h1, h2⟩, (hc 0).trans h.c0, fun k hk => (hc _).trans (h.ck k hk), h.le⟩
theorem RsP.fr (h : RsP W b l) (k : Nat) : W.frozen? ⟨b, k, none⟩ = false := by
  obtain ⟨cur, h1, h2⟩ := h.blk
  simp [World.frozen?, h1]
theorem RsP.drewN (h : RsP W b l) (n : Nat) : RsP (W.drewN n) b l := h.keep (by simp)
/-- The block as a whole. -/
theorem RsP.row (h : RsP W b l) : ∃ cur, W.heap[b]? = some (.cells cur 127 (0, 0)) ∧ cur.size = 33 ∧ cur.all (·.oneCell') = true ∧ cur[0]? = some (.int .i64 (l.length : Int)) ∧ ∀ k, k < 32 → cur[1 + k]? = some (.bool (l.getD k false)) := by
  obtain ⟨cur, h1, h2⟩ := h.blk
  have hc : ∀ k, W.cell? ⟨b, k, none⟩ = cur[k]? := fun k => cell_of_row W b k _ _ _ h1
  have e0 := (hc 0).symm.trans h.c0
  have ek := fun k hk => (hc (1 + k)).symm.trans (h.ck k hk)
  refine ⟨cur, h1, h2, ?_, e0, ek⟩
  rw [Array.all_eq_true]
  intro i hi
  cases i with
  | zero =>
    rw [Array.getElem?_eq_getElem hi] at e0
    injection e0 with e0
    rw [e0]
    rfl
  | succ k =>
    have e1 := ek k (by omega)
    rw [show 1 + k = k + 1 by omega, Array.getElem?_eq_getElem hi] at e1
    injection e1 with e1
    rw [e1]
    rfl
theorem RsP.of_row {cur : Array Value} (h1 : W.heap[b]? = some (.cells cur 127 (0, 0))) (h2 : cur.size = 33) (h0 : cur[0]? = some (.int .i64 (l.length : Int))) (hk : ∀ k, k < 32 → cur[1 + k]? = some (.bool (l.getD k false))) (hl : l.length ≤ 32) : RsP W b l :=
  ⟨⟨cur, h1, h2⟩, (cell_of_row W b 0 _ _ _ h1).trans h0, fun k h => (cell_of_row W b (1 + k) _ _ _ h1).trans (hk k h), hl⟩
end
theorem zeros_at (k : Nat) (hk : k < 32) : (Value.int .i64 0 :: List.replicate 32 (Value.bool false)).toArray[1 + k]? = some (.bool (([] : List Bool).getD k false)) := by
  rw [show 1 + k = k + 1 by omega, List.getElem?_toArray, List.getElem?_cons_succ, List.getElem?_replicate, if_pos hk]
  simp
set_option maxRecDepth 100000 in
set_option maxHeartbeats 4000000 in
theorem pnew_any (w : World) : Calls Tryz.prog 49 #[] w fun e w' => ∃ b, w.heap.size ≤ b ∧ e = .returned (.pointer (some ⟨b, 0, none⟩)) ∧ RsP w' b [] ∧ Below w.heap.size w w' := by
  go_enter Tryz.func49, Tryz.ntmps49
  go_wp2
  go_ret
  refine ⟨w.heap.size, Nat.le_refl _, rfl, RsP.of_row (heap_alloc_new w _) (by decide) (by rfl) ?_ (Nat.zero_le _), below_alloc w _⟩
  intro k hk
  exact zeros_at k hk
set_option maxRecDepth 100000 in
set_option maxHeartbeats 4000000 in
theorem pwant_any {w : World} {b : Nat} {l : List Bool} (h : RsP w b l) : Calls Tryz.prog 51 #[.pointer (some ⟨b, 0, none⟩)] w fun e w' => e = .returned (.int .i64 (l.length : Int)) ∧ w = w' := by
  have c0 := h.c0
  clear h
  go_enter Tryz.func51, Tryz.ntmps51
  go_wp2
  go_ret
  exact ⟨rfl, rfl⟩
theorem heap_setCells44 (g : Nat) : ∀ (vs : List Value) (o : Nat) (w : World) (cur : Array Value), w.heap[g]? = some (.cells cur 127 (0, 0)) → ∃ cur', (w.setCells g o vs).heap[g]? = some (.cells cur' 127 (0, 0)) ∧ cur'.size = cur.size
  | [], _, _, cur, h => ⟨cur, h, rfl⟩
  | v :: vs, o, w, cur, h => by
    obtain ⟨c1, h1, e1⟩ := heap_setCells44 g vs (o + 1) (w.setCell ⟨g, o, none⟩ v) _ (heap_setCell_same w g o cur 127 v h)
    exact ⟨c1, h1, by rw [e1]; simp⟩
theorem But1.trans {b : Nat} {a w w' : World} (h1 : But1 b a w) (h2 : But1 b w w') : But1 b a w' := ⟨h2.os.trans h1.os, h2.tape.trans h1.tape, h2.output.trans h1.output, Nat.le_trans h1.size h2.size, fun k hk hn => (h2.block k (Nat.lt_of_lt_of_le hk h1.size) hn).trans (h1.block k hk hn)⟩
theorem but_setCells (b : Nat) : ∀ (vs : List Value) (o : Nat) (w : World), But1 b w (w.setCells b o vs)
  | [], _, w => But1.refl b w
  | v :: vs, o, w => ((But1.refl b w).set o v).trans (but_setCells b vs (o + 1) (w.setCell ⟨b, o, none⟩ v))
theorem But1.drew {b : Nat} {w W : World} (h : But1 b w W) : But1 b w W.drew := ⟨h.os, by simpa using h.tape, h.output, h.size, fun k h1 h2 => h.block k h1 h2⟩
theorem written44 {w : World} {b : Nat} {u : Value} (h : ∃ cur, w.heap[b]? = some (.cells cur 127 (0, 0)) ∧ cur.size = 33) : ∃ cur, (w.setCell ⟨b, 0, none⟩ u).heap[b]? = some (.cells cur 127 (0, 0)) ∧ cur.size = 33 := by
  obtain ⟨cur, h1, h2⟩ := h
  exact ⟨_, heap_setCell_same w b 0 cur 127 u h1, by simpa using h2⟩
theorem cell_written {w : World} {b : Nat} {u v : Value} (h : w.cell? ⟨b, 0, none⟩ = some v) : (w.setCell ⟨b, 0, none⟩ u).cell? ⟨b, 0, none⟩ = some u := World.cell?_setCell_same' w _ u (by rw [h]; rfl)
/-- One of the 32 is written. -/
theorem RsP.set {w : World} {b : Nat} {l : List Bool} (h : RsP w b l) {j : Nat} (hj : j < l.length) (on : Bool) : RsP (w.setCell ⟨b, 1 + j, none⟩ (.bool on)) b (l.set j on) := by
  obtain ⟨cur, h1, h2, _, h3, h4⟩ := h.row
  have hl := h.le
  refine RsP.of_row (heap_setCell_same w b (1 + j) cur 127 (.bool on) h1) (by simpa using h2) ?_ ?_ (by rw [List.length_set]; exact hl)
  · rw [Array.getElem?_setIfInBounds_ne (by omega), List.length_set]
    exact h3
  · intro k hk
    rw [set_getD l j k on hj]
    by_cases hkj : k = j
    · subst hkj
      rw [if_pos rfl, Array.getElem?_setIfInBounds_self_of_lt (by omega)]
    · rw [if_neg hkj, Array.getElem?_setIfInBounds_ne (by omega)]
      exact h4 k hk
set_option maxRecDepth 100000 in
set_option maxHeartbeats 4000000 in
theorem pready_any {w : World} {b : Nat} {l : List Bool} (i : Int) (on : Bool) (h : RsP w b l) : Calls Tryz.prog 52 #[.pointer (some ⟨b, 0, none⟩), .int .i64 i, .bool on] w fun e w' => e = .returned (.bool (decide (isW l i))) ∧ RsP w' b (readyL l i on) ∧ But1 b w w' := by
  have HR := Lib.hid h
  have c0 := h.c0
  clear h
  by_cases h1 : i < 0
  case pos =>
    have e1 : decide (i < 0) = true := decide_eq_true h1
    have HN : Hid (¬ isW l i) := Lib.hid (fun h => by unfold isW at h; omega)
    clear h1
    go_enter Tryz.func52, Tryz.ntmps52
    go_wp2
    go_ret
    exact ⟨by rw [decide_eq_false HN.out]; rfl, by unfold readyL; rw [if_neg HN.out]; exact HR.out, But1.refl _ _⟩
  have e1 : decide (i < 0) = false := decide_eq_false h1
  by_cases h2 : (l.length : Int) ≤ i
  case pos =>
    have e2 : decide ((l.length : Int) ≤ i) = true := decide_eq_true h2
    have HN : Hid (¬ isW l i) := Lib.hid (fun h => by unfold isW at h; omega)
    clear h1 h2
    go_enter Tryz.func52, Tryz.ntmps52
    go_wp2
    go_ret
    exact ⟨by rw [decide_eq_false HN.out]; rfl, by unfold readyL; rw [if_neg HN.out]; exact HR.out, But1.refl _ _⟩
  have e2 : decide ((l.length : Int) ≤ i) = false := decide_eq_false h2
  have HN : Hid (isW l i) := Lib.hid (by unfold isW; omega)
  obtain ⟨j, rfl⟩ : ∃ j : Nat, i = j := ⟨i.toNat, by omega⟩
  have hj : j < l.length := by omega
  have hj9 : j < 32 := by have := HR.out.le; omega
  have e3 : decide (l.length ≤ j) = false := decide_eq_false (by omega)
  have k1 : w.cell? ⟨b, 1 + j, none⟩ = some (.bool (l.getD j false)) := HR.out.ck j hj9
  have k2 := HR.out.fr (1 + j)
  have HA := Lib.hid (HR.out.set hj on)
  have HU := Lib.hid ((But1.refl b w).set (1 + j) (.bool on))
  have HJ := Lib.hid hj
  obtain ⟨x, hx⟩ : ∃ x, x = l.getD j false := ⟨_, rfl⟩
  rw [← hx] at k1
  clear h1 h2 hj hx
  go_enter Tryz.func52, Tryz.ntmps52
  go_wp2
  go_ret
  exact ⟨by rw [decide_eq_true HN.out]; rfl, by unfold readyL; rw [if_pos HN.out]; exact HA.out, HU.out⟩
theorem cnt_step (l : List Bool) (k : Nat) : cntL (l.take (k + 1)) = cntL (l.take k) + (if l.getD k false = true then 1 else 0) := by
  by_cases h : k < l.length
  · exact cnt_take_succ l k h
  · rw [List.take_of_length_le (by omega), List.take_of_length_le (by omega), List.getD_eq_getElem?_getD, List.getElem?_eq_none (by omega)]
    rfl
/-- The 32 bools as a value. -/
def aggL (l : List Bool) : Array Value := (bools (padL l 32)).toArray
theorem aggL_at (l : List Bool) (k : Nat) (hk : k < 32) : (aggL l)[k]? = some (.bool (l.getD k false)) := by
  unfold aggL
  rw [List.getElem?_toArray, bools_at _ _ (by rw [padL_len]; exact hk), padL_at, if_pos hk]
theorem load_arr {w : World} {b : Nat} {l : List Bool} (h : RsP w b l) : (Instr.loadAt 125 (.pointer (some ⟨b, 1, none⟩))).run Tryz.prog w = .ok (.agg (aggL l)) w := by
  have hl : (loadCells ⟨b, 1, none⟩ (bools (padL l 32)).length).run Tryz.prog w = .ok (bools (padL l 32)).toArray w :=
    run_loadCells_list (P := Tryz.prog) w ⟨b, 1, none⟩ (bools (padL l 32)) (fun j v hv => by
      have hj : j < 32 := by have := (List.getElem?_eq_some_iff.1 hv).1; rw [bools_len, padL_len] at this; exact this
      rw [addr_add, h.ck j hj, ← hv, bools_at _ _ (by rw [padL_len]; exact hj), padL_at, if_pos hj])
  rw [bools_len, padL_len] at hl
  cases hq : Tryz.prog.info? 125 with
  | none => have := i42; simp [hq] at this
  | some i =>
    have hs : i.size = 32 := by simpa [hq] using i42
    have hagg : (isAgg 125).run Tryz.prog w = .ok true w := by
      unfold isAgg
      rw [Sem.run_bind, run_underlying u42 w]
      rfl
    simp [Instr.loadAt, Instr.sureAddr, loadVar, Sem.run_bind, hagg, sizeOf, typeInfo, hq, hs, hl, aggL]
theorem index_arr (w : World) (l : List Bool) (k : Nat) (hk : k < 32) : (Instr.index 125 (.agg (aggL l)) (.int .i64 (k : Int))).run Tryz.prog w = .ok (.bool (l.getD k false)) w := by
  have h4 : (sizeOf 4).run Tryz.prog w = .ok 1 w := by simp [sizeOf, typeInfo, ie4_is, ie4_size]
  have ha := aggL_at l k hk
  simp [Instr.index, run_underlying u42, asIntOf, hk, h4, part, ha]
theorem wpList_load_arr {ops : Array Oper} {rest : List Oper} {o : Oper} {a : Act} {w : World} {b : Nat} {l : List Bool} {Q : Exit → Act → World → Prop} (hgd : o.guard = none) (x : Operand) (ho : o.op = .load 125 x) (hx : a.eval x = .pointer (some ⟨b, 1, none⟩)) (hr : RsP w b l) (h : wpList Tryz.prog ops Q rest (a.put o.dst (.agg (aggL l))) w) : wpList Tryz.prog ops Q (o :: rest) a w :=
  wpList_plain hgd fun _ hK => by
    unfold Oper.wp execOp
    simp only [ho, hx, load_arr hr, Sem.run_bind, Sem.run_pure, Result.andThen_ok]
    exact hK _ _ h
theorem wpList_index_arr {ops : Array Oper} {rest : List Oper} {o : Oper} {a : Act} {w : World} {l : List Bool} {Q : Exit → Act → World → Prop} (hgd : o.guard = none) (x i : Operand) (ho : o.op = .index 125 x i) (hx : a.eval x = .agg (aggL l)) (k : Nat) (hi : a.eval i = .int .i64 (k : Int)) (hk : k < 32) (h : wpList Tryz.prog ops Q rest (a.put o.dst (.bool (l.getD k false))) w) : wpList Tryz.prog ops Q (o :: rest) a w :=
  wpList_plain hgd fun _ hK => by
    unfold Oper.wp execOp
    simp only [ho, hx, hi, index_arr w l k hk, Sem.run_bind, Sem.run_pure, Result.andThen_ok]
    exact hK _ _ h
set_option maxRecDepth 100000 in
set_option maxHeartbeats 4000000 in
theorem pcount_any {w : World} {b : Nat} {l : List Bool} (h : RsP w b l) : Calls Tryz.prog 62 #[.pointer (some ⟨b, 0, none⟩)] w fun e w' => e = .returned (.int .i64 (cntL l : Int)) ∧ w = w' := by
  have HR := Lib.hid h
  clear h
  go_enter Tryz.func62, Tryz.ntmps62
  go_wp2_with (refine wpList_load_arr rfl (.tmp 8) rfl rfl HR.out ?_)
  go_loopg [3, 10] 32 (fun gg nv iv wr => ∃ i : Nat, Hid (gg = 32 - i) ∧ i ≤ 32 ∧ nv = .int .i64 (cntL (l.take i) : Int) ∧ iv = .int .i64 (i : Int) ∧ wr = w)
  case atStart => exact ⟨0, Lib.hid rfl, Nat.zero_le _, rfl, rfl, rfl⟩
  case round =>
    obtain ⟨i, HG, hi, rfl, rfl, rfl⟩ := hrel
    by_cases hl : i < 32
    case neg =>
      have e4 : decide ((i : Int) < 32) = false := decide_eq_false (by omega)
      have e5 : decide (i < 32) = false := decide_eq_false hl
      obtain rfl : i = 32 := by omega
      have HT : Hid (cntL (l.take 32) = cntL l) := Lib.hid (by rw [List.take_of_length_le HR.out.le])
      clear hl
      go_wp2
      go_ret
      exact ⟨by rw [← HT.out]; rfl, rfl⟩
    have e4 : decide ((i : Int) < 32) = true := decide_eq_true (by omega)
    have e5 : decide (i < 32) = true := decide_eq_true hl
    have hs := cnt_step l i
    have hcle : cntL (l.take i) ≤ 32 := Nat.le_trans (cnt_le _) (by rw [List.length_take]; omega)
    obtain ⟨q, hq⟩ : ∃ q, q = cntL (l.take i) := ⟨_, rfl⟩
    rw [← hq] at hs hcle ⊢
    have HLT := Lib.hid hl
    obtain ⟨x, hx⟩ : ∃ x, x = l.getD i false := ⟨_, rfl⟩
    rw [← hx] at hs
    have HX := Lib.hid hx
    have HS := Lib.hid hs
    clear hq hs hx
    cases x with
    | true =>
      go_wp2_with (refine wpList_index_arr rfl (.tmp 9) (.tmp 10) rfl rfl i rfl HLT.out ?_; rw [← HX.out])
      go_roundg (32 - (i + 1))
      case measure => have := HG.out; have := HLT.out; omega
      case rel => exact ⟨i + 1, Lib.hid rfl, HLT.out, by rw [HS.out]; go_num, by go_num, rfl⟩
    | false =>
      go_wp2_with (refine wpList_index_arr rfl (.tmp 9) (.tmp 10) rfl rfl i rfl HLT.out ?_; rw [← HX.out])
      go_roundg (32 - (i + 1))
      case measure => have := HG.out; have := HLT.out; omega
      case rel => exact ⟨i + 1, Lib.hid rfl, HLT.out, by rw [HS.out]; rfl, by go_num, rfl⟩
theorem pcount_q {w : World} {b : Nat} {l : List Bool} (n : Nat) (h : RsP w b l) : Calls Tryz.prog 62 #[.pointer (some ⟨b, 0, none⟩)] (w.drewN n) fun e w' => e = .returned (.int .i64 (cntL l : Int)) ∧ ∃ m, w' = w.drewN m :=
  Calls.quiet_of_same ((pcount_any (h.drewN n)).mono fun _ _ ⟨he, hw⟩ => ⟨he, hw.symm⟩)
theorem clear_any {w : World} {b : Nat} {cur : Array Value} (m : Nat) (ty : TypeId) (o : Nat) (ho : m < 32 → o = 1 + m) (h1 : w.heap[b]? = some (.cells cur 127 (0, 0))) (h2 : cur.size = 33) (hm : m ≤ 32) :
    ∃ w', (Builtin.clear_ #[95] ty #[.slice (some ⟨b, o, none⟩) (32 - m) (32 - m)]).run Tryz.prog w = .ok (.tuple #[]) w' ∧ (∃ cur', w'.heap[b]? = some (.cells cur' 127 (0, 0)) ∧ cur'.size = 33) ∧ (∀ k, k < 1 + m → w'.cell? ⟨b, k, none⟩ = w.cell? ⟨b, k, none⟩) ∧ (∀ k, m ≤ k → k < 32 → w'.cell? ⟨b, 1 + k, none⟩ = some (.bool false)) ∧ But1 b w w' := by
  by_cases h : m < 32
  case neg =>
    obtain rfl : m = 32 := by omega
    exact ⟨w, by simp [Builtin.clear_, run_underlying Tryz.underlying95], ⟨cur, h1, h2⟩, fun _ _ => rfl, fun k hk1 hk2 => by omega, But1.refl b w⟩
  obtain rfl := ho h
  have hc : ∀ j, j < 32 - m → (w.cell? ⟨b, 1 + m + j, none⟩).isSome = true := fun j hj => by
    rw [cell_of_row w b _ _ _ _ h1, Array.getElem?_eq_getElem (by omega)]
    rfl
  have hf : ∀ j, j < 32 - m → w.frozen? ⟨b, 1 + m + j, none⟩ = false := fun j _ => by simp [World.frozen?, h1]
  have hz : ∀ w, (zeroValue 4).run Tryz.prog w = .ok (.bool false) w := fun w => by simp [zeroValue, typeInfo, ie4_is, ie4_zero]
  refine ⟨_, Lib.run_clear_slice w 95 4 ty (.bool false) Tryz.underlying95 hz rfl rfl b (1 + m) (32 - m) (32 - m) (by omega) hc hf, ?_, ?_, ?_, ?_⟩
  · obtain ⟨c', e1, e2⟩ := heap_setCells44 b (List.replicate (32 - m) (.bool false)) (1 + m) w cur h1
    exact ⟨c', e1, e2.trans h2⟩
  · intro k hk
    exact World.cell?_setCells_out b _ (1 + m) w _ (fun _ _ => .inl hk)
  · intro k hk1 hk2
    have := World.cell?_setCells_in b (List.replicate (32 - m) (.bool false)) (1 + m) w (fun j hj => hc j (by simpa using hj)) (k - m) (by rw [List.length_replicate]; omega)
    rw [show 1 + m + (k - m) = 1 + k by omega] at this
    rw [this]
    simp
  · exact but_setCells b _ (1 + m) w
/-- Where the part behind the first m begins. -/
def offP (m : Nat) : Nat := if 32 = m then 1 else 1 + m
theorem slice_arr (b m : Nat) (hm : m ≤ 32) (w : World) : (Instr.sliceAt 125 (.pointer (some ⟨b, 1, none⟩)) (some (.int .i64 (m : Int))) none none).run Tryz.prog w = .ok (.slice (some ⟨b, offP m, none⟩) (32 - m) (32 - m)) w := by
  have h4 : (sizeOf 4).run Tryz.prog w = .ok 1 w := by simp [sizeOf, typeInfo, ie4_is, ie4_size]
  have h0 : (m : Int) ≤ 32 := by omega
  by_cases h : 32 = m
  · subst h
    simp [Instr.sliceAt, run_underlying u42, Instr.sureAddr, Instr.sliceBounds, Instr.sliceBound, asIntOf, h4, offP]
  · simp [Instr.sliceAt, run_underlying u42, Instr.sureAddr, Instr.sliceBounds, Instr.sliceBound, asIntOf, h4, offP, h, hm, addr_add]
/-- What the two writes of Scale leave. -/
theorem scale_left {w W W' : World} {b : Nat} {l : List Bool} {n : Int} {m : Nat} (h : RsP w b l) (hm : m ≤ 32) (hc : clampN n = m) (h1 : But1 b w W) (hk : ∀ k, k < 32 → W.cell? ⟨b, 1 + k, none⟩ = w.cell? ⟨b, 1 + k, none⟩) (h0 : W.cell? ⟨b, 0, none⟩ = some (.int .i64 (m : Int)))
    (g1 : ∃ cur', W'.heap[b]? = some (.cells cur' 127 (0, 0)) ∧ cur'.size = 33) (g2 : ∀ k, k < 1 + m → W'.cell? ⟨b, k, none⟩ = W.cell? ⟨b, k, none⟩) (g3 : ∀ k, m ≤ k → k < 32 → W'.cell? ⟨b, 1 + k, none⟩ = some (.bool false)) (g4 : But1 b W W') : RsP W' b (scaleL l n) ∧ But1 b w W' := by
  refine ⟨⟨g1, ?_, ?_, ?_⟩, h1.trans g4⟩
  · rw [g2 0 (by omega), h0, scaleL_len, hc]
  · intro k hk32
    unfold scaleL
    rw [padL_at, hc]
    by_cases hkm : k < m
    · rw [if_pos hkm, g2 (1 + k) (by omega), hk k hk32, h.ck k hk32]
    · rw [if_neg hkm, g3 k (by omega) hk32]
  · rw [scaleL_len]
    exact clampN_le n
set_option maxRecDepth 100000 in
set_option maxHeartbeats 4000000 in
theorem pscale_any {w : World} {b : Nat} {l : List Bool} (n : Int) (h : RsP w b l) : Calls Tryz.prog 76 #[.pointer (some ⟨b, 0, none⟩), .int .i64 n] w fun e w' => e = .returned (.tuple #[]) ∧ RsP w' b (scaleL l n) ∧ But1 b w w' := by
  have HR := Lib.hid h
  have c0 := h.c0
  have q0 := h.fr 0
  clear h
  go_enter Tryz.func76, Tryz.ntmps76
  go_wp2
  · have hcl : Hid (clampN n = 0) := Lib.hid (by unfold clampN; omega)
    refine name_w (fun W => (∃ cur, W.heap[b]? = some (.cells cur 127 (0, 0)) ∧ cur.size = 33) ∧ W.cell? ⟨b, 0, none⟩ = some (.int .i64 0) ∧ (∀ k, k < 32 → W.cell? ⟨b, 1 + k, none⟩ = w.cell? ⟨b, 1 + k, none⟩) ∧ But1 b w W) ⟨written44 HR.out.blk, cell_written c0, fun k _ => World.cell?_setCell_other _ _ _ _ (fun e => by injection e with _ e _; omega), (But1.refl b w).set 0 _⟩ ?_
    rintro W ⟨⟨cur, x1, x2⟩, x3, x4, x5⟩
    have y1 : W.drew.cell? ⟨b, 0, none⟩ = some (.int .i64 0) := by simpa using x3
    obtain ⟨w', z1, z2, z3, z4, z5⟩ := clear_any (w := W.drew) (cur := cur) 0 0 (offP 0) (fun h => by unfold offP; exact if_neg (by omega)) x1 x2 (by omega)
    have y2 : w'.cell? ⟨b, 0, none⟩ = some (.int .i64 0) := (z3 0 (by omega)).trans y1
    have HS : Hid (∀ W, (Instr.sliceAt 125 (.pointer (some ⟨b, 1, none⟩)) (some (.int .i64 0)) none none).run Tryz.prog W = .ok (.slice (some ⟨b, offP 0, none⟩) (32 - 0) (32 - 0)) W) := Lib.hid (slice_arr b 0 (by omega))
    have HZ := Lib.hid (scale_left (W := W.drew) HR.out (by omega) hcl.out (x5.drew) (fun k hk => by simpa using x4 k hk) y1 z2 z3 z4 z5)
    have hs := HS.out
    clear x1 x2 x3 x4 x5 z2 z3 z4 z5 c0 q0
    go_region_held3 (fun wx => wx.cell? ⟨b, 0, none⟩ = some (.int .i64 0)) (first | exact y2 | exact y1) (fail)
    go_wp2
    go_end0
    exact ⟨rfl, HZ.out⟩
  · have hcl : Hid (clampN n = 32) := Lib.hid (by unfold clampN; omega)
    refine name_w (fun W => (∃ cur, W.heap[b]? = some (.cells cur 127 (0, 0)) ∧ cur.size = 33) ∧ W.cell? ⟨b, 0, none⟩ = some (.int .i64 32) ∧ (∀ k, k < 32 → W.cell? ⟨b, 1 + k, none⟩ = w.cell? ⟨b, 1 + k, none⟩) ∧ But1 b w W) ⟨written44 HR.out.blk, cell_written c0, fun k _ => World.cell?_setCell_other _ _ _ _ (fun e => by injection e with _ e _; omega), (But1.refl b w).set 0 _⟩ ?_
    rintro W ⟨⟨cur, x1, x2⟩, x3, x4, x5⟩
    have y1 : W.drew.cell? ⟨b, 0, none⟩ = some (.int .i64 32) := by simpa using x3
    obtain ⟨w', z1, z2, z3, z4, z5⟩ := clear_any (w := W.drew) (cur := cur) 32 0 (offP 32) (fun h => by unfold offP; exact if_neg (by omega)) x1 x2 (by omega)
    have y2 : w'.cell? ⟨b, 0, none⟩ = some (.int .i64 32) := (z3 0 (by omega)).trans y1
    have HS : Hid (∀ W, (Instr.sliceAt 125 (.pointer (some ⟨b, 1, none⟩)) (some (.int .i64 32)) none none).run Tryz.prog W = .ok (.slice (some ⟨b, offP 32, none⟩) (32 - 32) (32 - 32)) W) := Lib.hid (slice_arr b 32 (by omega))
    have HZ := Lib.hid (scale_left (W := W.drew) HR.out (by omega) hcl.out (x5.drew) (fun k hk => by simpa using x4 k hk) y1 z2 z3 z4 z5)
    have hs := HS.out
    clear x1 x2 x3 x4 x5 z2 z3 z4 z5 c0 q0
    go_region_held3 (fun wx => wx.cell? ⟨b, 0, none⟩ = some (.int .i64 32)) (first | exact y2 | exact y1) (fail)
    go_wp2
    go_end0
    exact ⟨rfl, HZ.out⟩
  · obtain ⟨m, rfl⟩ : ∃ m : Nat, n = m := ⟨n.toNat, by omega⟩
    have hm : m ≤ 32 := by omega
    have hcl : Hid (clampN (m : Int) = m) := Lib.hid (by unfold clampN; omega)
    refine name_w (fun W => (∃ cur, W.heap[b]? = some (.cells cur 127 (0, 0)) ∧ cur.size = 33) ∧ W.cell? ⟨b, 0, none⟩ = some (.int .i64 (m : Int)) ∧ (∀ k, k < 32 → W.cell? ⟨b, 1 + k, none⟩ = w.cell? ⟨b, 1 + k, none⟩) ∧ But1 b w W) ⟨written44 HR.out.blk, cell_written c0, fun k _ => World.cell?_setCell_other _ _ _ _ (fun e => by injection e with _ e _; omega), (But1.refl b w).set 0 _⟩ ?_
    rintro W ⟨⟨cur, x1, x2⟩, x3, x4, x5⟩
    have y1 : W.drew.cell? ⟨b, 0, none⟩ = some (.int .i64 (m : Int)) := by simpa using x3
    obtain ⟨w', z1, z2, z3, z4, z5⟩ := clear_any (w := W.drew) (cur := cur) m 0 (offP m) (fun h => by unfold offP; exact if_neg (by omega)) x1 x2 hm
    have y2 : w'.cell? ⟨b, 0, none⟩ = some (.int .i64 (m : Int)) := (z3 0 (by omega)).trans y1
    have HS : Hid (∀ W, (Instr.sliceAt 125 (.pointer (some ⟨b, 1, none⟩)) (some (.int .i64 (m : Int))) none none).run Tryz.prog W = .ok (.slice (some ⟨b, offP m, none⟩) (32 - m) (32 - m)) W) := Lib.hid (slice_arr b m hm)
    have HZ := Lib.hid (scale_left (W := W.drew) HR.out hm hcl.out (x5.drew) (fun k hk => by simpa using x4 k hk) y1 z2 z3 z4 z5)
    have hs := HS.out
    clear x1 x2 x3 x4 x5 z2 z3 z4 z5 c0 q0
    go_region_held3 (fun wx => wx.cell? ⟨b, 0, none⟩ = some (.int .i64 (m : Int))) (first | exact y2 | exact y1) (fail)
    go_wp2
    go_end0
    exact ⟨rfl, HZ.out⟩
end Go.Proofs.YtchaeidmjoelnaaGreat
