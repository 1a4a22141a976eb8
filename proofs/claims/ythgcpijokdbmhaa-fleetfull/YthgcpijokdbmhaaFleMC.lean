/-
  The document's fleet: Apply, Fill.
-/
import Derived.Test.YthgcpijokdbmhaaFleMB
import Derived.Deep.Cut
namespace Go.Proofs.Ythgcpijokdbmhaa
open Go.RowKit

section
variable {O : Nat → Prop} {W W' : World} {b a c x : Nat} {va vc v' : Value} {k l k' l' : List Bool} {s : Int}
/-- Two numbers in a block of the call's own. -/
def Box2 (W : World) (A : Nat) (p q : Int) : Prop := W.heap[A]? = some (.cells #[.int .i64 p, .int .i64 q] 28 (0, 0))
theorem Box2.c0 {A : Nat} {p q : Int} (h : Box2 W A p q) : W.cell? ⟨A, 0, none⟩ = some (.int .i64 p) := by rw [cell_of_row W A 0 _ _ _ h]; rfl
theorem Box2.c1 {A : Nat} {p q : Int} (h : Box2 W A p q) : W.cell? ⟨A, 1, none⟩ = some (.int .i64 q) := by rw [cell_of_row W A 1 _ _ _ h]; rfl
set_option maxRecDepth 100000 in
set_option maxHeartbeats 4000000 in
theorem mapply_any (p q : Int) (h : Fm O W b a c va vc k l) : Calls Try.prog 11 #[.pointer (some ⟨b, 0, none⟩), .agg #[.int .i64 p, .int .i64 q]] W fun e w' => e = .returned (.tuple #[]) ∧ Turn FlM O W w' b (scaleL k p) (scaleL l q) := by
  have HF := Lib.hid h
  clear h
  go_enter Try.func11, Try.ntmps11
  go_upto_region 1 with (fail)
  obtain ⟨A, hA⟩ : ∃ A, A = W.heap.size := ⟨_, rfl⟩
  rw [← hA]
  refine name_w (fun X => Fm O X b a c va vc k l ∧ Box2 X A p q ∧ Below W.heap.size W X) ?_ ?_
  · have hb := below_alloc W (.cells #[.int .i64 p, .int .i64 q] 28)
    exact ⟨HF.out.below hb, by unfold Box2; rw [hA]; exact heap_alloc_new W _, hb⟩
  rintro X ⟨h1, h2, h3⟩
  have y1 : X.drew.cell? ⟨b, 0, none⟩ = some (.pointer (some ⟨a, 0, none⟩)) ∧ X.drew.cell? ⟨A, 0, none⟩ = some (.int .i64 p) := ⟨(h1.below (below_drew1 X)).c0, h2.c0⟩
  have hAO : ¬ O A := fun h => by have := HF.out.lt A h; omega
  have HC : Hid (Calls Try.prog 23 #[.pointer (some ⟨a, 0, none⟩), .int .i64 p] X.drew fun e w' => e = .returned (.tuple #[]) ∧ ∃ v' O', Fm O' w' b a c v' vc (scaleL k p) l ∧ Box2 w' A p q ∧ (∀ j, O' j → O j ∨ W.heap.size ≤ j) ∧ ButO O W w' ∧ ¬ O' A) := Lib.hid (by
    refine (fm_scaleA p (h1.below (below_drew1 X))).mono fun _ w' ⟨he, v', hf, hb⟩ => ⟨he, v', _, hf, (hb.block A (lt_of_block h2) hAO).trans h2, fun j hj => (more_sub _ _ _ j hj).imp id (fun h => Nat.le_trans h3.size h), (ButO.of_below (h3.trans ((below_drew1 X).mono h3.size))).trans hb (fun j hj => .inl hj), ?_⟩
    have := lt_of_block h2
    exact fun hj => hj.elim hAO (fun h => by have : X.heap.size ≤ A := h.1; omega))
  clear h1 h2 h3 hAO hA
  go_region_held3 (fun wx => wx.cell? ⟨b, 0, none⟩ = some (.pointer (some ⟨a, 0, none⟩)) ∧ wx.cell? ⟨A, 0, none⟩ = some (.int .i64 p)) (first | exact y2 | exact y1) (first | (go_at_call 23; refine HC.out.mono ?_; rintro e w2 ⟨rfl, v2, O2, f1, f2, f3, f4, f5⟩; have y2 := And.intro f1.c0 f2.c0))
  clear y1 y2 HC
  rename_i hh1
  clear hh1
  have y1 : w2.drew.cell? ⟨b, 1, none⟩ = some (.pointer (some ⟨c, 0, none⟩)) ∧ w2.drew.cell? ⟨A, 1, none⟩ = some (.int .i64 q) := ⟨(f1.below (below_drew1 w2)).c1, f2.c1⟩
  have HC : Hid (Calls Try.prog 23 #[.pointer (some ⟨c, 0, none⟩), .int .i64 q] w2.drew fun e w' => e = .returned (.tuple #[]) ∧ ∃ v' O', Fm O' w' b a c v2 v' (scaleL k p) (scaleL l q) ∧ (∀ j, O' j → O j ∨ W.heap.size ≤ j) ∧ ButO O W w' ∧ Box2 w' A p q) := Lib.hid (by
    refine (fm_scaleB q (f1.below (below_drew1 w2))).mono fun _ w' ⟨he, v', hf, hb⟩ => ⟨he, v', _, hf, fun j hj => (more_sub _ _ _ j hj).elim (f3 j) (fun h => .inr (Nat.le_trans f4.size h)), (f4.trans (ButO.of_below (O := O) (below_drew1 w2)) (fun j hj => .inl hj)).trans hb f3, (hb.block A (lt_of_block f2) f5).trans f2⟩)
  clear f1 f2 f3 f4 f5
  go_wp2
  go_region_held3 (fun wx => wx.cell? ⟨b, 1, none⟩ = some (.pointer (some ⟨c, 0, none⟩)) ∧ wx.cell? ⟨A, 1, none⟩ = some (.int .i64 q)) (first | exact y3 | exact y1) (first | (go_at_call 23; refine HC.out.mono ?_; rintro e w3 ⟨rfl, v3, O3, g1, g2, g3, g4⟩; have y3 := And.intro g1.c1 g4.c1))
  have HZ := Lib.hid (And.intro g1 (And.intro g2 g3))
  clear y1 y3 HC g1 g2 g3 g4
  go_wp2
  go_end0
  exact ⟨rfl, O3, ⟨a, c, v2, v3, HZ.out.1⟩, HZ.out.2.1, HZ.out.2.2⟩
set_option maxRecDepth 100000 in
set_option maxHeartbeats 4000000 in
theorem mfill_any (h : Fm O W b a c va vc k l) : Calls Try.prog 16 #[.pointer (some ⟨b, 0, none⟩)] W fun e w' => e = .returned (.tuple #[]) ∧ Turn FlM O W w' b (fillL k) (fillL l) := by
  have HF := Lib.hid h
  clear h
  go_enter Try.func16, Try.ntmps16
  go_wp2
  go_loopg [2] 32 (fun gg iv wr => ∃ (i : Nat) (Oi : Nat → Prop) (ui wi : Value), Hid (gg = 32 - i) ∧ i ≤ 32 ∧ iv = .int .i64 (i : Int) ∧ Hid (Fm Oi wr b a c ui wi (fillTo k i) (fillTo l i) ∧ (∀ j, Oi j → O j ∨ W.heap.size ≤ j) ∧ ButO O W wr))
  case atStart => exact ⟨0, O, va, vc, Lib.hid rfl, Nat.zero_le _, rfl, Lib.hid ⟨HF.out, fun j h => .inl h, ButO.refl _ _⟩⟩
  case round =>
    obtain ⟨i, Oi, ui, wi, HG, hi, rfl, HI⟩ := hrel
    by_cases hl : i < 32
    case neg =>
      have e4 : decide ((i : Int) < 32) = false := decide_eq_false (by omega)
      have e5 : decide (i < 32) = false := decide_eq_false hl
      obtain rfl : i = 32 := by omega
      have HT : Hid (Turn FlM O W wr b (fillL k) (fillL l)) := Lib.hid (by
        have h := HI.out.1
        rw [fillTo_all k 32 HF.out.ra.le, fillTo_all l 32 HF.out.rc.le] at h
        exact ⟨Oi, ⟨_, _, _, _, h⟩, HI.out.2⟩)
      clear hl HI
      go_wp2
      go_end0
      exact ⟨rfl, HT.out⟩
    have e4 : decide ((i : Int) < 32) = true := decide_eq_true (by omega)
    have e5 : decide (i < 32) = true := decide_eq_true hl
    have HLT := Lib.hid hl
    have k0 := HI.out.1.c0
    clear hl
    go_wp2_with fail
    refine (fm_readyA (i : Int) true HI.out.1).mono ?_
    rintro e w2 ⟨rfl, v2, f1, f2⟩
    have k1 := f1.c1
    have H2 := Lib.hid (And.intro f1 f2)
    clear f1 f2 k0
    go_wp2_with fail
    refine (fm_readyB (i : Int) true H2.out.1).mono ?_
    rintro e w3 ⟨rfl, v3, f1, f2⟩
    have H3 := Lib.hid (And.intro f1 f2)
    clear f1 f2 k1
    go_wp2
    go_roundg (32 - (i + 1))
    case measure => have := HG.out; have := HLT.out; omega
    case rel =>
      have e2 := HI.out.2.2.trans H2.out.2 HI.out.2.1
      have s2 : ∀ j, more Oi wr w2 j → O j ∨ W.heap.size ≤ j := fun j hj => (more_sub _ _ _ j hj).elim (HI.out.2.1 j) (fun h => .inr (Nat.le_trans HI.out.2.2.size h))
      exact ⟨i + 1, _, v2, v3, Lib.hid rfl, HLT.out, by go_num, Lib.hid ⟨H3.out.1, fun j hj => (more_sub _ _ _ j hj).elim (s2 j) (fun h => .inr (Nat.le_trans e2.size h)), e2.trans H3.out.2 s2⟩⟩
end
end Go.Proofs.Ythgcpijokdbmhaa
