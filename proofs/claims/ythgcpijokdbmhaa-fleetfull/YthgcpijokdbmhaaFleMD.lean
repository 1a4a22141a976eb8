/-
  The document's fleet: View.
-/
import Derived.Test.YthgcpijokdbmhaaFleMC
import Derived.Laws.StructEq
namespace Go.Proofs.Ythgcpijokdbmhaa
open Go.RowKit

theorem u37 : Try.prog.underlying 37 = some (.struct (Try.prog.fieldsOf 37)) := by kernel_rfl
theorem i37 : (Try.prog.info? 37).map (·.size) = some 4 := by kernel_rfl
/-- A view: four numbers. -/
def viewV (a b c d : Nat) : Value := .agg #[.int .i64 (a : Int), .int .i64 (b : Int), .int .i64 (c : Int), .int .i64 (d : Int)]
def viewK (k l : List Bool) : Value := viewV k.length l.length (cntL k) (cntL l)
def Row4 (W : World) (A : Nat) (a b c d : Int) : Prop := W.heap[A]? = some (.cells #[.int .i64 a, .int .i64 b, .int .i64 c, .int .i64 d] 37 (0, 0))
section
variable {O : Nat → Prop} {W W' : World} {b a c x : Nat} {va vc v' : Value} {k l k' l' : List Bool} {s : Int}
theorem Row4.c0 {A : Nat} {p q r s : Int} (h : Row4 W A p q r s) : W.cell? ⟨A, 0, none⟩ = some (.int .i64 p) := by rw [cell_of_row W A 0 _ _ _ h]; rfl
theorem Row4.c1 {A : Nat} {p q r s : Int} (h : Row4 W A p q r s) : W.cell? ⟨A, 1, none⟩ = some (.int .i64 q) := by rw [cell_of_row W A 1 _ _ _ h]; rfl
theorem Row4.c2 {A : Nat} {p q r s : Int} (h : Row4 W A p q r s) : W.cell? ⟨A, 2, none⟩ = some (.int .i64 r) := by rw [cell_of_row W A 2 _ _ _ h]; rfl
theorem Row4.c3 {A : Nat} {p q r s : Int} (h : Row4 W A p q r s) : W.cell? ⟨A, 3, none⟩ = some (.int .i64 s) := by rw [cell_of_row W A 3 _ _ _ h]; rfl
theorem Row4.fr {A : Nat} {p q r s : Int} (h : Row4 W A p q r s) (i : Nat) : W.frozen? ⟨A, i, none⟩ = false := by simp [World.frozen?, show W.heap[A]? = _ from h]
theorem Row4.set01 {A : Nat} {p q r s : Int} (h : Row4 W A p q r s) (x y : Int) : Row4 ((W.setCell ⟨A, 0, none⟩ (.int .i64 x)).setCell ⟨A, 1, none⟩ (.int .i64 y)) A x y r s := heap_setCell_same _ A 1 _ 37 _ (heap_setCell_same W A 0 _ 37 _ h)
theorem Row4.set23 {A : Nat} {p q r s : Int} (h : Row4 W A p q r s) (x y : Int) : Row4 ((W.setCell ⟨A, 2, none⟩ (.int .i64 x)).setCell ⟨A, 3, none⟩ (.int .i64 y)) A p q x y := heap_setCell_same _ A 3 _ 37 _ (heap_setCell_same W A 2 _ 37 _ h)
/-- A new block is written: all older ones stay. -/
theorem below_setNew {B : Nat} {w W : World} (h : Below B w W) (A i : Nat) (u : Value) (hA : B ≤ A) : Below B w (W.setCell ⟨A, i, none⟩ u) :=
  ⟨h.os, h.tape, h.output, by simpa [World.setCell] using h.size, fun k hk => (Below.heap_setCell W ⟨A, i, none⟩ u k (by show k ≠ A; omega)).trans (h.block k hk)⟩
theorem mcount_k {n : Nat} (h : RsM W x v' k ∧ n = cntL k) : Calls Try.prog 28 #[.pointer (some ⟨x, 0, none⟩)] W fun e w' => e = .returned (.int .i64 (n : Int)) ∧ W = w' := by
  rw [h.2]
  exact mcount_any x v' k W h.1
set_option maxRecDepth 100000 in
set_option maxHeartbeats 4000000 in
theorem mview_any (h : Fm O W b a c va vc k l) : Calls Try.prog 18 #[.pointer (some ⟨b, 0, none⟩)] W fun e w' => e = .returned (viewK k l) ∧ Below W.heap.size W w' := by
  have HF := Lib.hid h
  obtain ⟨Aa, ca, rfl⟩ := h.ra.own.shape
  obtain ⟨Ac, cc, rfl⟩ := h.rc.own.shape
  clear h
  go_enter Try.func18, Try.ntmps18
  go_upto_region 2 with (fail)
  obtain ⟨A, hA⟩ : ∃ A, A = W.heap.size := ⟨_, rfl⟩
  obtain ⟨B, hB⟩ : ∃ B, B = W.heap.size + 1 := ⟨_, rfl⟩
  rw [← hB, ← hA]
  refine name_w (fun X => Fm O X b a c (.slice Aa k.length ca) (.slice Ac l.length cc) k l ∧ Row4 X A 0 0 0 0 ∧ Row4 X B 0 0 0 0 ∧ Below W.heap.size W X) ?_ ?_
  · have b1 := below_alloc W (.cells #[.int .i64 0, .int .i64 0, .int .i64 0, .int .i64 0] 37)
    have b2 := b1.alloc b1.size (.cells #[.int .i64 0, .int .i64 0, .int .i64 0, .int .i64 0] 37)
    have n1 := heap_alloc2_old W (.cells #[.int .i64 0, .int .i64 0, .int .i64 0, .int .i64 0] 37) (.cells #[.int .i64 0, .int .i64 0, .int .i64 0, .int .i64 0] 37)
    have n2 := heap_alloc2_new W (.cells #[.int .i64 0, .int .i64 0, .int .i64 0, .int .i64 0] 37) (.cells #[.int .i64 0, .int .i64 0, .int .i64 0, .int .i64 0] 37)
    exact ⟨HF.out.below b2, by rw [hA]; exact n1, by rw [hB]; exact n2, b2⟩
  rintro X ⟨h1, h2, h3, h4⟩
  have HAB := Lib.hid (And.intro hA hB)
  clear hA hB
  have f1 := h1.below (below_drew1 X)
  have y1 : X.drew.cell? ⟨b, 0, none⟩ = some (.pointer (some ⟨a, 0, none⟩)) ∧ X.drew.cell? ⟨b, 1, none⟩ = some (.pointer (some ⟨c, 0, none⟩)) ∧ X.drew.cell? ⟨a, 0, none⟩ = some (.slice Aa k.length ca) ∧ X.drew.cell? ⟨c, 0, none⟩ = some (.slice Ac l.length cc) := ⟨f1.c0, f1.c1, f1.ra.c0, f1.rc.c0⟩
  have g3 : Row4 X B 0 0 0 0 := h3
  have z0 := g3.c0
  have z1 := g3.c1
  have q0 := g3.fr 0
  have q1 := g3.fr 1
  have HY : Hid (Fm O ((X.setCell ⟨B, 0, none⟩ (.int .i64 k.length)).setCell ⟨B, 1, none⟩ (.int .i64 l.length)).drew b a c (.slice Aa k.length ca) (.slice Ac l.length cc) k l ∧ Row4 ((X.setCell ⟨B, 0, none⟩ (.int .i64 k.length)).setCell ⟨B, 1, none⟩ (.int .i64 l.length)).drew A 0 0 0 0 ∧ Row4 ((X.setCell ⟨B, 0, none⟩ (.int .i64 k.length)).setCell ⟨B, 1, none⟩ (.int .i64 l.length)).drew B k.length l.length 0 0 ∧ Below W.heap.size W ((X.setCell ⟨B, 0, none⟩ (.int .i64 k.length)).setCell ⟨B, 1, none⟩ (.int .i64 l.length)).drew) := Lib.hid (by
    have hbl0 := below_setNew (below_setNew h4 B 0 (.int .i64 k.length) (by rw [HAB.out.2]; omega)) B 1 (.int .i64 l.length) (by rw [HAB.out.2]; omega)
    have hbl := hbl0.trans ((below_drew1 _).mono hbl0.size)
    have hne : A ≠ B := by rw [HAB.out.1, HAB.out.2]; omega
    exact ⟨HF.out.below hbl, ((Below.heap_setCell _ ⟨B, 1, none⟩ _ A hne).trans (Below.heap_setCell _ ⟨B, 0, none⟩ _ A hne)).trans h2, g3.set01 _ _, hbl⟩)
  have y2 : _ ∧ _ ∧ _ ∧ _ := ⟨HY.out.1.c0, HY.out.1.c1, HY.out.1.ra.c0, HY.out.1.rc.c0⟩
  clear h1 h2 h3 h4 f1 g3
  go_region_held3 (fun wx => wx.cell? ⟨b, 0, none⟩ = some (.pointer (some ⟨a, 0, none⟩)) ∧ wx.cell? ⟨b, 1, none⟩ = some (.pointer (some ⟨c, 0, none⟩)) ∧ wx.cell? ⟨a, 0, none⟩ = some (.slice Aa k.length ca) ∧ wx.cell? ⟨c, 0, none⟩ = some (.slice Ac l.length cc)) (first | exact y2 | exact y1) (fail)
  rename_i hh
  clear hh y1 y2 z0 z1 q0 q1
  go_wp2
  refine name_w (fun Y => Fm O Y b a c (.slice Aa k.length ca) (.slice Ac l.length cc) k l ∧ Row4 Y A 0 0 0 0 ∧ Row4 Y B k.length l.length 0 0 ∧ Below W.heap.size W Y) HY.out ?_
  clear HY
  rintro Y ⟨h1, h2, h3, h4⟩
  obtain ⟨ck, hck⟩ : ∃ x, x = cntL k := ⟨_, rfl⟩
  obtain ⟨cl, hcl⟩ : ∃ x, x = cntL l := ⟨_, rfl⟩
  have f1 := h1.below (below_drew1 Y)
  have y1 : Y.drew.cell? ⟨b, 0, none⟩ = some (.pointer (some ⟨a, 0, none⟩)) ∧ Y.drew.cell? ⟨b, 1, none⟩ = some (.pointer (some ⟨c, 0, none⟩)) := ⟨f1.c0, f1.c1⟩
  have ra := Lib.hid (And.intro f1.ra hck)
  have rc := Lib.hid (And.intro f1.rc hcl)
  have z2 := h3.c2
  have z3 := h3.c3
  have q2 := h3.fr 2
  have q3 := h3.fr 3
  have HY : Hid (Fm O ((Y.setCell ⟨B, 2, none⟩ (.int .i64 ck)).setCell ⟨B, 3, none⟩ (.int .i64 cl)).drew b a c (.slice Aa k.length ca) (.slice Ac l.length cc) k l ∧ Row4 ((Y.setCell ⟨B, 2, none⟩ (.int .i64 ck)).setCell ⟨B, 3, none⟩ (.int .i64 cl)).drew A 0 0 0 0 ∧ Row4 ((Y.setCell ⟨B, 2, none⟩ (.int .i64 ck)).setCell ⟨B, 3, none⟩ (.int .i64 cl)).drew B k.length l.length ck cl ∧ Below W.heap.size W ((Y.setCell ⟨B, 2, none⟩ (.int .i64 ck)).setCell ⟨B, 3, none⟩ (.int .i64 cl)).drew) := Lib.hid (by
    have hbl0 := below_setNew (below_setNew h4 B 2 (.int .i64 ck) (by rw [HAB.out.2]; omega)) B 3 (.int .i64 cl) (by rw [HAB.out.2]; omega)
    have hbl := hbl0.trans ((below_drew1 _).mono hbl0.size)
    have hne : A ≠ B := by rw [HAB.out.1, HAB.out.2]; omega
    exact ⟨HF.out.below hbl, ((Below.heap_setCell _ ⟨B, 3, none⟩ _ A hne).trans (Below.heap_setCell _ ⟨B, 2, none⟩ _ A hne)).trans h2, h3.set23 _ _, hbl⟩)
  have y2 : _ ∧ _ := ⟨HY.out.1.c0, HY.out.1.c1⟩
  have HV := Lib.hid (And.intro hck hcl)
  clear h1 h2 h3 h4 f1 hck hcl
  go_region_held3 (fun wx => wx.cell? ⟨b, 0, none⟩ = some (.pointer (some ⟨a, 0, none⟩)) ∧ wx.cell? ⟨b, 1, none⟩ = some (.pointer (some ⟨c, 0, none⟩))) (first | exact y2 | exact y1) (first | (go_at_call 28; refine (mcount_k (by first | exact ra.out | exact rc.out)).mono ?_; rintro e w2 ⟨rfl, rfl⟩))
  rename_i hh
  clear hh y1 y2 z2 z3 q2 q3 ra rc
  go_upto_region 4 with (fail)
  refine name_w (fun Z => Row4 Z A 0 0 0 0 ∧ Row4 Z B k.length l.length ck cl ∧ Below W.heap.size W Z) ⟨HY.out.2.1, HY.out.2.2⟩ ?_
  clear HY
  rintro Z ⟨h1, h2, h3⟩
  have m0 := h2.c0
  have m1 := h2.c1
  have m2 := h2.c2
  have m3 := h2.c3
  have z0 := h1.c0
  have z1 := h1.c1
  have z2 := h1.c2
  have z3 := h1.c3
  have q0 := h1.fr 0
  have q1 := h1.fr 1
  have q2 := h1.fr 2
  have q3 := h1.fr 3
  have HZ := Lib.hid ((h1.set01 (k.length : Int) (l.length : Int)).set23 (ck : Int) (cl : Int))
  have HW : Hid (Below W.heap.size W ((((Z.setCell ⟨A, 0, none⟩ (.int .i64 k.length)).setCell ⟨A, 1, none⟩ (.int .i64 l.length)).setCell ⟨A, 2, none⟩ (.int .i64 ck)).setCell ⟨A, 3, none⟩ (.int .i64 cl))) := Lib.hid (by
    have ha : W.heap.size ≤ A := by rw [HAB.out.1]; exact Nat.le_refl _
    exact below_setNew (below_setNew (below_setNew (below_setNew h3 A 0 _ ha) A 1 _ ha) A 2 _ ha) A 3 _ ha)
  clear h1 h2 h3
  go_wp2
  refine bodyPost_ret (results_cell_row rfl _ _ A 37 #[.int .i64 k.length, .int .i64 l.length, .int .i64 ck, .int .i64 cl] (0, 0) _ rfl HZ.out u37 rfl i37) rfl ?_
  exact ⟨by rw [HV.out.1, HV.out.2]; rfl, HW.out⟩
end
end Go.Proofs.Ythgcpijokdbmhaa
