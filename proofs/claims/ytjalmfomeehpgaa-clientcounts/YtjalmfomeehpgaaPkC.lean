/-
  Package router in memory: set, New, Cell, Writes.
-/
import Derived.Test.YtjalmfomeehpgaaPkB
import Derived.Laws.StructEq
import Derived.Deep.MidRow
import Derived.Deep.QuietTactic
import Derived.BigQuiet
namespace Go.Proofs.Ytjalmfomeehpgaa
open Go.RowKit

theorem u34 : Try.prog.underlying 33 = some (.struct (Try.prog.fieldsOf 33)) := by kernel_rfl
theorem sh34 : Try.prog.stoodInHeld 33 = false := by kernel_rfl
theorem i34 : (Try.prog.info? 33).map (·.size) = some 2 := by kernel_rfl
theorem eq34 (a b c d : Int) (w : World) : (Op.equalIn 10000 33 (.agg #[.int .i64 a, .int .i64 b]) (.agg #[.int .i64 c, .int .i64 d])).run Try.prog w = .ok (a == c && b == d) w := by
  rw [run_equalIn_agg w 9999 33 _ _ u34 sh34]
  have hf : (Try.prog.fieldsOf 33).toList.map (fun f => (f.type, f.offset, f.name)) = [(3, 0, "Slot"), (3, 1, "Gen")] := by kernel_rfl
  generalize (Try.prog.fieldsOf 33).toList = fs at hf
  rcases fs with _ | ⟨f0, _ | ⟨f1, _ | ⟨f2, fs⟩⟩⟩ <;> simp at hf
  obtain ⟨⟨h1, h2, h3⟩, h4, h5, h6⟩ := hf
  have i3 : ∀ d a b, (Op.equalIn (d + 1) 3 (.int .i64 a) (.int .i64 b)).run Try.prog w = .ok (a == b) w := fun d a b => run_equalIn_int w d 3 .i64 .i64 a b Try.underlying3
  simp [Op.eqFields, h1, h2, h3, h4, h5, h6, part, i3 9998]
  by_cases h7 : a = c <;> by_cases h8 : b = d <;> simp [h7, h8]
theorem But.drewN {b g : Nat} {w W : World} (h : But b g w W) (n : Nat) : But b g w (W.drewN n) := ⟨h.os, by simpa using h.tape, h.output, by simpa using h.size, fun k h1 h2 h3 => by simpa using h.block k h1 h2 h3⟩
theorem But.wide {b g : Nat} {w W : World} (h : But b b w W) : But b g w W := ⟨h.os, h.tape, h.output, h.size, fun k h1 h2 _ => h.block k h1 h2 h2⟩
theorem RoP.but {W W' : World} {b g : Nat} {v : Value} {s : Ro} (h : RoP W b g v s) (hb : W'.heap[b]? = W.heap[b]?) (hk : ∀ k, v.ownBlock = some k → W'.heap[k]? = W.heap[k]?) : RoP W' b g v s := ⟨hb.trans h.row, h.own.keep hk⟩
theorem RoP.drewN {b g n : Nat} {W : World} {v : Value} {s : Ro} (h : RoP W b g v s) : RoP (W.drewN n) b g v s := h.but (by simp) (fun k _ => by simp)
def setS (s : Ro) (gen slot : Int) : Ro := if s.gen < gen then ⟨slot, gen, s.outs, s.writes + 1⟩ else s
def noE (s : Ro) (gen slot : Int) : Int := if gen < s.gen ∨ slot ≠ s.slot then 11 else 0
def setE (s : Ro) (gen slot : Int) : Int := if s.gen < gen then 0 else noE s gen slot
set_option maxRecDepth 100000 in
set_option maxHeartbeats 4000000 in
theorem pset_up (b g : Nat) (s : Ro) (gen slot : Int) (v : Value) (w : World) (h : RoP w b g v s) (hg : s.gen < gen) (hwr : 0 ≤ s.writes ∧ s.writes ≤ 1000000) : Calls Try.prog 28 #[.pointer (some ⟨b, 0, none⟩), .agg #[.int .i64 slot, .int .i64 gen]] w fun e w' => e = .returned (.int .i64 0) ∧ RoP w' b g v ⟨slot, gen, s.outs, s.writes + 1⟩ ∧ But b b w w' := by
  have hnb := h.nb
  have hblt := lt_of_block h.row
  have f3 : decide (s.gen < gen) = true := by simpa using hg
  have HH := Lib.hid h
  have HN := Lib.hid hnb
  have HB := Lib.hid hblt
  have HW := Lib.hid hwr
  have q34 := eq34
  clear h hg hwr hnb hblt
  go_enter Try.func28, Try.ntmps28
  go_upto_region 1 with (fail)
  refine name_w (fun W => W.heap[w.heap.size]? = some (.cells #[.int .i64 slot, .int .i64 gen] 33 (0, 0)) ∧ Below w.heap.size w W) ⟨heap_alloc_new w _, (Below.refl _ _).alloc (Nat.le_refl _) _⟩ ?_
  rintro W ⟨h1, h2⟩
  have hr : W.heap[b]? = _ := (h2.block b HB.out).trans HH.out.row
  have HT := Lib.hid h1
  have HL := Lib.hid h2
  have HR := Lib.hid hr
  have c0 : W.cell? ⟨b, 0, none⟩ = some (.int .i64 s.slot) := by rw [cell_of_row W b 0 _ _ _ hr]; rfl
  have c1 : W.cell? ⟨b, 1, none⟩ = some (.int .i64 s.gen) := by rw [cell_of_row W b 1 _ _ _ hr]; rfl
  have t0 : W.cell? ⟨w.heap.size, 0, none⟩ = some (.int .i64 slot) := by rw [cell_of_row W _ 0 _ _ _ h1]; rfl
  have t1 : W.cell? ⟨w.heap.size, 1, none⟩ = some (.int .i64 gen) := by rw [cell_of_row W _ 1 _ _ _ h1]; rfl
  have c2 : W.cell? ⟨b, 2, none⟩ = some (.int .i64 s.writes) := by rw [cell_of_row W b 2 _ _ _ hr]; rfl
  have q0 : W.frozen? ⟨b, 0, none⟩ = false := by simp [World.frozen?, show W.heap[b]? = _ from hr]
  have q1 : W.frozen? ⟨b, 1, none⟩ = false := by simp [World.frozen?, show W.heap[b]? = _ from hr]
  have q2 : W.frozen? ⟨b, 2, none⟩ = false := by simp [World.frozen?, show W.heap[b]? = _ from hr]
  have ew : IntKind.i64.wrap (s.writes + 1) = s.writes + 1 := IntWalk.i64_in _ (by have := HW.out; omega)
  clear h1 h2 hr
  go_quiet (fail)
  go_upto_region 4 with (fail)
  have hne : w.heap.size ≠ b := by have := HB.out; omega
  refine name_w (fun X => X.heap[w.heap.size]? = some (.cells #[.int .i64 slot, .int .i64 gen] 33 (0, 0)) ∧ RoP X b g v ⟨slot, gen, s.outs, s.writes + 1⟩ ∧ But b b w X) ?_ ?_
  · have hd : (W.drewN nq).heap = W.heap := by simp
    refine ⟨?_, ⟨heap_setCell_same _ _ 2 _ 59 (.int .i64 (s.writes + 1)) (heap_setCell_same _ _ 1 _ 59 (.int .i64 gen) (heap_setCell_same _ _ 0 _ 59 (.int .i64 slot) (by rw [hd]; exact HR.out))), ?_⟩, ?_⟩
    · rw [Below.heap_setCell _ _ _ _ hne, Below.heap_setCell _ _ _ _ hne, Below.heap_setCell _ _ _ _ hne, hd]
      exact HT.out
    · refine HH.out.own.keep (fun k hk => ?_)
      have hkb : k ≠ b := fun e => HN.out (e ▸ hk)
      rw [Below.heap_setCell _ _ _ _ hkb, Below.heap_setCell _ _ _ _ hkb, Below.heap_setCell _ _ _ _ hkb, hd]
      exact HL.out.block k (HH.out.own.lt k hk)
    · have hb : But b b w (W.drewN nq) := (But.of_below HL.out).drewN nq
      exact ((hb.set 0 _).set 1 _).set 2 _
  clear c0 c1 c2 t0 t1 q0 q1 q2 HT HL HR hne f3
  rintro X ⟨h1, h2, h3⟩
  have hr := h2.row
  have c0 : X.cell? ⟨b, 0, none⟩ = some (.int .i64 slot) := by rw [cell_of_row X b 0 _ _ _ hr]; rfl
  have c1 : X.cell? ⟨b, 1, none⟩ = some (.int .i64 gen) := by rw [cell_of_row X b 1 _ _ _ hr]; rfl
  have t0 : X.cell? ⟨w.heap.size, 0, none⟩ = some (.int .i64 slot) := by rw [cell_of_row X _ 0 _ _ _ h1]; rfl
  have t1 : X.cell? ⟨w.heap.size, 1, none⟩ = some (.int .i64 gen) := by rw [cell_of_row X _ 1 _ _ _ h1]; rfl
  have HP := Lib.hid h2
  have HQ := Lib.hid h3
  clear h1 h2 h3 hr
  go_quiet (fail)
  go_wp2
  go_ret
  exact ⟨rfl, HP.out.but (by simp) (fun k _ => by simp), HQ.out.drewN _⟩


set_option maxRecDepth 100000 in
set_option maxHeartbeats 4000000 in
theorem pset_no (b g : Nat) (s : Ro) (gen slot : Int) (v : Value) (w : World) (h : RoP w b g v s) (hg : ¬ s.gen < gen) : Calls Try.prog 28 #[.pointer (some ⟨b, 0, none⟩), .agg #[.int .i64 slot, .int .i64 gen]] w fun e w' => e = .returned (.int .i64 (noE s gen slot)) ∧ RoP w' b g v s ∧ But b b w w' := by
  have hblt := lt_of_block h.row
  have f3 : decide (s.gen < gen) = false := by simpa using hg
  have HH := Lib.hid h
  have HB := Lib.hid hblt
  have HG := Lib.hid hg
  have q34 := eq34
  clear h hg hblt
  go_enter Try.func28, Try.ntmps28
  go_upto_region 1 with (fail)
  refine name_w (fun W => W.heap[w.heap.size]? = some (.cells #[.int .i64 slot, .int .i64 gen] 33 (0, 0)) ∧ Below w.heap.size w W) ⟨heap_alloc_new w _, (Below.refl _ _).alloc (Nat.le_refl _) _⟩ ?_
  rintro W ⟨h1, h2⟩
  have hr : W.heap[b]? = _ := (h2.block b HB.out).trans HH.out.row
  have c0 : W.cell? ⟨b, 0, none⟩ = some (.int .i64 s.slot) := by rw [cell_of_row W b 0 _ _ _ hr]; rfl
  have c1 : W.cell? ⟨b, 1, none⟩ = some (.int .i64 s.gen) := by rw [cell_of_row W b 1 _ _ _ hr]; rfl
  have t0 : W.cell? ⟨w.heap.size, 0, none⟩ = some (.int .i64 slot) := by rw [cell_of_row W _ 0 _ _ _ h1]; rfl
  have t1 : W.cell? ⟨w.heap.size, 1, none⟩ = some (.int .i64 gen) := by rw [cell_of_row W _ 1 _ _ _ h1]; rfl
  have HP : Hid (∀ n, RoP (W.drewN n) b g v s) := Lib.hid (fun n => (HH.out.but (h2.block b HB.out) (fun k hk => h2.block k (HH.out.own.lt k hk))).drewN)
  have HQ : Hid (∀ n, But b b w (W.drewN n)) := Lib.hid (fun n => (But.of_below h2).drewN n)
  clear h1 h2 hr HH HB
  go_quiet (fail)
  by_cases hs : slot = s.slot
  case neg =>
    have es : (slot == s.slot) = false := by simpa using hs
    have HE : Hid (noE s gen slot = 11) := Lib.hid (if_pos (.inr hs))
    clear hs
    go_upto_region 4 with (fail)
    go_quiet (fail)
    go_wp2
    go_ret
    exact ⟨by rw [HE.out]; rfl, by simpa using HP.out _, by simpa using HQ.out _⟩
  have es : (slot == s.slot) = true := by simpa using hs
  by_cases hl : gen < s.gen
  case pos =>
    have el : (gen == s.gen) = false := by simp; omega
    have HE : Hid (noE s gen slot = 11) := Lib.hid (if_pos (.inl hl))
    clear hs hl
    go_upto_region 4 with (fail)
    go_quiet (fail)
    go_wp2
    go_ret
    exact ⟨by rw [HE.out]; rfl, by simpa using HP.out _, by simpa using HQ.out _⟩
  have el : (gen == s.gen) = true := by have := HG.out; simp; omega
  have HE : Hid (noE s gen slot = 0) := Lib.hid (if_neg (fun h => h.elim hl (fun h => h hs)))
  clear hs hl
  go_upto_region 4 with (fail)
  go_quiet (fail)
  go_wp2
  go_ret
  exact ⟨by rw [HE.out]; rfl, by simpa using HP.out _, by simpa using HQ.out _⟩
theorem pset_any (b g : Nat) (s : Ro) (gen slot : Int) (v : Value) (w : World) (h : RoP w b g v s) (hwr : 0 ≤ s.writes ∧ s.writes ≤ 1000000) : Calls Try.prog 28 #[.pointer (some ⟨b, 0, none⟩), .agg #[.int .i64 slot, .int .i64 gen]] w fun e w' => e = .returned (.int .i64 (setE s gen slot)) ∧ RoP w' b g v (setS s gen slot) ∧ But b b w w' := by
  unfold setE setS
  by_cases hg : s.gen < gen
  · rw [if_pos hg, if_pos hg]
    exact pset_up b g s gen slot v w h hg hwr
  · rw [if_neg hg, if_neg hg]
    exact pset_no b g s gen slot v w h hg
set_option maxRecDepth 100000 in
set_option maxHeartbeats 4000000 in
theorem pnew_any (g : Nat) (w : World) : Calls Try.prog 9 #[.pointer (some ⟨g, 0, none⟩)] w fun e w' => e = .returned (.pointer (some ⟨w.heap.size, 0, none⟩)) ∧ RoP w' w.heap.size g (.slice none 0 0) ⟨0, 0, [], 0⟩ ∧ Below w.heap.size w w' ∧ w'.heap.size = w.heap.size + 1 := by
  go_enter Try.func9, Try.ntmps9
  go_wp2
  go_ret
  exact ⟨rfl, ⟨heap_alloc_new w _, .inl ⟨rfl, rfl⟩⟩, (Below.refl _ _).alloc (Nat.le_refl _) _, by simp⟩
set_option maxRecDepth 100000 in
set_option maxHeartbeats 4000000 in
theorem pwrites_any (b g : Nat) (s : Ro) (v : Value) (w : World) (h : RoP w b g v s) : Calls Try.prog 19 #[.pointer (some ⟨b, 0, none⟩)] w fun e w' => e = .returned (.int .i64 s.writes) ∧ w = w' := by
  have c2 : w.cell? ⟨b, 2, none⟩ = some (.int .i64 s.writes) := by rw [cell_of_row w b 2 _ _ _ h.row]; rfl
  clear h
  go_enter Try.func19, Try.ntmps19
  go_wp2
  go_ret
  exact ⟨rfl, rfl⟩
set_option maxRecDepth 100000 in
set_option maxHeartbeats 4000000 in
theorem pcell_any (b g : Nat) (s : Ro) (v : Value) (w : World) (h : RoP w b g v s) : Calls Try.prog 18 #[.pointer (some ⟨b, 0, none⟩)] w fun e w' => e = .returned (.agg #[.int .i64 s.slot, .int .i64 s.gen]) ∧ Below w.heap.size w w' ∧ w'.heap.size = w.heap.size + 1 := by
  have hlt := lt_of_block h.row
  have c0 : w.cell? ⟨b, 0, none⟩ = some (.int .i64 s.slot) := by rw [cell_of_row w b 0 _ _ _ h.row]; rfl
  have c1 : w.cell? ⟨b, 1, none⟩ = some (.int .i64 s.gen) := by rw [cell_of_row w b 1 _ _ _ h.row]; rfl
  have hb : b ≠ w.heap.size := by omega
  clear h
  go_enter Try.func18, Try.ntmps18
  go_upto_region 1 with (fail)
  have hn := heap_alloc_new w (.cells #[.int .i64 0, .int .i64 0] 33)
  refine name_w (fun W => W.heap[w.heap.size]? = some (.cells #[.int .i64 0, .int .i64 0] 33 (0, 0)) ∧ Below w.heap.size w W ∧ W.heap.size = w.heap.size + 1) ⟨hn, (Below.refl _ _).alloc (Nat.le_refl _) _, by simp⟩ ?_
  rintro W ⟨h1, h2, h3⟩
  have d0 : W.cell? ⟨b, 0, none⟩ = some (.int .i64 s.slot) := (h2.cell (p := ⟨b, 0, none⟩) hlt).trans c0
  have d1 : W.cell? ⟨b, 1, none⟩ = some (.int .i64 s.gen) := (h2.cell (p := ⟨b, 1, none⟩) hlt).trans c1
  have t0 : W.cell? ⟨w.heap.size, 0, none⟩ = some (.int .i64 0) := by rw [cell_of_row W _ 0 _ _ _ h1]; rfl
  have t1 : W.cell? ⟨w.heap.size, 1, none⟩ = some (.int .i64 0) := by rw [cell_of_row W _ 1 _ _ _ h1]; rfl
  have q0 : W.frozen? ⟨w.heap.size, 0, none⟩ = false := by simp [World.frozen?, h1]
  have q1 : W.frozen? ⟨w.heap.size, 1, none⟩ = false := by simp [World.frozen?, h1]
  have HZ := Lib.hid (heap_setCell_same _ _ 1 _ 33 (.int .i64 s.gen) (heap_setCell_same _ _ 0 _ 33 (.int .i64 s.slot) h1))
  have HQ : Hid (Below w.heap.size w ((W.setCell ⟨w.heap.size, 0, none⟩ (.int .i64 s.slot)).setCell ⟨w.heap.size, 1, none⟩ (.int .i64 s.gen)) ∧ ((W.setCell ⟨w.heap.size, 0, none⟩ (.int .i64 s.slot)).setCell ⟨w.heap.size, 1, none⟩ (.int .i64 s.gen)).heap.size = w.heap.size + 1) := Lib.hid ⟨⟨h2.os, h2.tape, h2.output, by simpa [World.setCell] using h2.size, fun k hk => ((Below.heap_setCell _ ⟨w.heap.size, 1, none⟩ _ k (by show k ≠ w.heap.size; omega)).trans (Below.heap_setCell _ ⟨w.heap.size, 0, none⟩ _ k (by show k ≠ w.heap.size; omega))).trans (h2.block k hk)⟩, by simpa [World.setCell] using h3⟩
  clear h1 h2 h3 hn c0 c1 hlt
  go_wp2
  refine bodyPost_ret (results_cell_row rfl _ _ w.heap.size 33 #[.int .i64 s.slot, .int .i64 s.gen] (0, 0) _ rfl HZ.out u34 rfl i34) rfl ?_
  exact ⟨rfl, HQ.out⟩
end Go.Proofs.Ytjalmfomeehpgaa
