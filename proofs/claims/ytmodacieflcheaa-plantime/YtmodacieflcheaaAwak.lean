/-
  awake: answers that the document fixes.
-/
import Derived.Test.YtmodacieflcheaaPlnE
namespace Go.Proofs.Ytmodacieflcheaa
open Go.RowKit

set_option maxRecDepth 100000 in
set_option maxHeartbeats 8000000 in
theorem awake_any (hp : PkgPl) (w : World) : Calls Try.prog 9 #[] w fun e w' => e = .returned (.bool true) ∧ Below w.heap.size w w' := by
  have HK := Lib.hid hp
  clear hp
  have fv : ∀ a b c d : Int, 0 ≤ a ∧ a ≤ 1 → 0 ≤ b ∧ b ≤ 1 → 0 ≤ c ∧ c ≤ 1 → 0 ≤ d ∧ d ≤ 1 → FitsV ⟨a, b, c, d⟩ := fun a b c d h1 h2 h3 h4 => ⟨fits_small h1.1 (by show a ≤ 1073741824; omega), fits_small h2.1 (by show b ≤ 1073741824; omega), fits_small h3.1 (by show c ≤ 1073741824; omega), fits_small h4.1 (by show d ≤ 1073741824; omega)⟩
  have HN0 : Hid (∀ W, Calls Try.prog 11 #[.agg (stC ⟨5, 0, 1, 2, 1, 1, true, true, 3, 0, 0, 5⟩), .agg (vwC ⟨0, 0, 0, 0⟩), .int .i64 7] W fun e w' => e = .returned (.tuple #[.int .i64 0, .agg (recC (rcK 0 0))]) ∧ Below W.heap.size W w') := Lib.hid (fun W => by have h := HK.out.next ⟨5, 0, 1, 2, 1, 1, true, true, 3, 0, 0, 5⟩ ⟨0, 0, 0, 0⟩ 7 W (by decide) (fv _ _ _ _ (by decide) (by decide) (by decide) (by decide)) (fits_small (by decide) (by decide)); rw [show nextS ⟨5, 0, 1, 2, 1, 1, true, true, 3, 0, 0, 5⟩ ⟨0, 0, 0, 0⟩ 7 = (0, rcK 0 0) from rfl] at h; exact h)
  have eq0 : ∀ W, (Op.equalIn 10000 31 (.agg (recC (rcK 0 0))) (.agg #[.int .i64 0, .int .i64 0, .int .i64 0, .int .i64 0, .int .i64 0, .int .i64 0, .bool false, .int .i64 0, .int .i64 0, .int .i64 0, .int .i64 0, .int .i64 0, .int .i64 0, .bool false, .bool false, .int .i64 0, .int .i64 0, .int .i64 0, .int .i64 0])).run Try.prog W = .ok true W := eq31 (a := rcK 0 0) (fits_rcK (by decide) (by decide))
  have HN1 : Hid (∀ W, Calls Try.prog 11 #[.agg (stC ⟨5, 0, 1, 2, 1, 1, true, true, 3, 0, 0, 5⟩), .agg (vwC ⟨0, 0, 0, 0⟩), .int .i64 8] W fun e w' => e = .returned (.tuple #[.int .i64 6, .agg (recC (rcK 10 0))]) ∧ Below W.heap.size W w') := Lib.hid (fun W => by have h := HK.out.next ⟨5, 0, 1, 2, 1, 1, true, true, 3, 0, 0, 5⟩ ⟨0, 0, 0, 0⟩ 8 W (by decide) (fv _ _ _ _ (by decide) (by decide) (by decide) (by decide)) (fits_small (by decide) (by decide)); rw [show nextS ⟨5, 0, 1, 2, 1, 1, true, true, 3, 0, 0, 5⟩ ⟨0, 0, 0, 0⟩ 8 = (6, rcK 10 0) from rfl] at h; exact h)
  have eq1 : ∀ W, (Op.equalIn 10000 31 (.agg (recC (rcK 10 0))) (.agg #[.int .i64 10, .int .i64 0, .int .i64 0, .int .i64 0, .int .i64 0, .int .i64 0, .bool false, .int .i64 0, .int .i64 0, .int .i64 0, .int .i64 0, .int .i64 0, .int .i64 0, .bool false, .bool false, .int .i64 0, .int .i64 0, .int .i64 0, .int .i64 0])).run Try.prog W = .ok true W := eq31 (a := rcK 10 0) (fits_rcK (by decide) (by decide))
  have HN2 : Hid (∀ W, Calls Try.prog 11 #[.agg (stC ⟨3, 0, 1, 2, 1, 1, true, true, 3, 0, 0, 5⟩), .agg (vwC ⟨1, 1, 0, 1⟩), .int .i64 0] W fun e w' => e = .returned (.tuple #[.int .i64 2, .agg (recC (rcK 5 1))]) ∧ Below W.heap.size W w') := Lib.hid (fun W => by have h := HK.out.next ⟨3, 0, 1, 2, 1, 1, true, true, 3, 0, 0, 5⟩ ⟨1, 1, 0, 1⟩ 0 W (by decide) (fv _ _ _ _ (by decide) (by decide) (by decide) (by decide)) (fits_small (by decide) (by decide)); rw [show nextS ⟨3, 0, 1, 2, 1, 1, true, true, 3, 0, 0, 5⟩ ⟨1, 1, 0, 1⟩ 0 = (2, rcK 5 1) from rfl] at h; exact h)
  have eq2 : ∀ W, (Op.equalIn 10000 31 (.agg (recC (rcK 5 1))) (.agg #[.int .i64 5, .int .i64 0, .int .i64 0, .int .i64 0, .int .i64 1, .int .i64 0, .bool false, .int .i64 0, .int .i64 0, .int .i64 0, .int .i64 0, .int .i64 0, .int .i64 0, .bool false, .bool false, .int .i64 0, .int .i64 0, .int .i64 0, .int .i64 0])).run Try.prog W = .ok true W := eq31 (a := rcK 5 1) (fits_rcK (by decide) (by decide))
  have HU0 : Hid (∀ W, Calls Try.prog 13 #[.agg (stC ⟨3, 0, 1, 2, 1, 1, true, true, 3, 0, 0, 5⟩), .agg (vwC ⟨1, 1, 0, 1⟩), .int .i64 1] W fun e w' => e = .returned (.bool true) ∧ Below W.heap.size W w') := Lib.hid (fun W => by have h := HK.out.full ⟨3, 0, 1, 2, 1, 1, true, true, 3, 0, 0, 5⟩ ⟨1, 1, 0, 1⟩ 1 W (right_fits (by decide)) (fv _ _ _ _ (by decide) (by decide) (by decide) (by decide)) (fits_small (by decide) (by decide)); rw [show fullS ⟨3, 0, 1, 2, 1, 1, true, true, 3, 0, 0, 5⟩ ⟨1, 1, 0, 1⟩ 1 = true from by decide] at h; exact h)
  have HU1 : Hid (∀ W, Calls Try.prog 13 #[.agg (stC ⟨3, 0, 1, 2, 1, 1, true, true, 3, 0, 0, 5⟩), .agg (vwC ⟨1, 1, 0, 1⟩), .int .i64 0] W fun e w' => e = .returned (.bool false) ∧ Below W.heap.size W w') := Lib.hid (fun W => by have h := HK.out.full ⟨3, 0, 1, 2, 1, 1, true, true, 3, 0, 0, 5⟩ ⟨1, 1, 0, 1⟩ 0 W (right_fits (by decide)) (fv _ _ _ _ (by decide) (by decide) (by decide) (by decide)) (fits_small (by decide) (by decide)); rw [show fullS ⟨3, 0, 1, 2, 1, 1, true, true, 3, 0, 0, 5⟩ ⟨1, 1, 0, 1⟩ 0 = false from by decide] at h; exact h)
  have HU2 : Hid (∀ W, Calls Try.prog 13 #[.agg (stC ⟨3, 0, 1, 2, 1, 1, true, true, 3, 0, 0, 5⟩), .agg (vwC ⟨1, 1, 0, 1⟩), .int .i64 2] W fun e w' => e = .returned (.bool false) ∧ Below W.heap.size W w') := Lib.hid (fun W => by have h := HK.out.full ⟨3, 0, 1, 2, 1, 1, true, true, 3, 0, 0, 5⟩ ⟨1, 1, 0, 1⟩ 2 W (right_fits (by decide)) (fv _ _ _ _ (by decide) (by decide) (by decide) (by decide)) (fits_small (by decide) (by decide)); rw [show fullS ⟨3, 0, 1, 2, 1, 1, true, true, 3, 0, 0, 5⟩ ⟨1, 1, 0, 1⟩ 2 = false from by decide] at h; exact h)
  clear fv HK
  go_enter Try.func9, Try.ntmps9
  have BT0 : Hid (Below w.heap.size w w) := Lib.hid (Below.refl _ _)
  go_upto_region 2 with (first | (refine wpList_plain rfl fun _ hK => wp_store_row 25 (.tmp 1) (.tmp 12) rfl w.heap.size (stC ⟨5, 0, 1, 2, 1, 1, true, true, 3, 0, 0, 5⟩) rfl rfl 25 _ (Rw.new w _ 25) i12 rfl (stC_one _) (hK _ _ ?_); clear hK))
  obtain ⟨C, hY⟩ : ∃ X, X = w.heap.size := ⟨_, rfl⟩
  rw [← hY]
  have HCW : Hid (w.heap.size ≤ C) := Lib.hid (by rw [hY]; exact Nat.le_refl _)
  refine name_w (fun W => Rw W C (stC ⟨5, 0, 1, 2, 1, 1, true, true, 3, 0, 0, 5⟩) 25 ∧ Below w.heap.size w W) ?_ ?_
  · have bb := below_setRow ((Below.refl w.heap.size w).alloc (Nat.le_refl _) (.cells (stC zeroS) 25)) (Nat.le_refl _) (b := w.heap.size) (stC ⟨5, 0, 1, 2, 1, 1, true, true, 3, 0, 0, 5⟩)
    rw [hY]
    exact ⟨(Rw.new w _ 25).set (stC ⟨5, 0, 1, 2, 1, 1, true, true, 3, 0, 0, 5⟩), BT0.out.trans (bb.mono BT0.out.size)⟩
  clear hY BT0 
  rintro u1 ⟨h0, h1⟩
  have R_C_1 := Lib.hid h0
  have BT1 := Lib.hid h1
  clear h0 h1
  go_wp2_with (first | (refine wpList_load_any (by rfl) 25 (.tmp 1) rfl C rfl 25 (stC ⟨5, 0, 1, 2, 1, 1, true, true, 3, 0, 0, 5⟩) (0, 0) _ R_C_1.out Try.underlying25 rfl i12 ?_))
  refine (HN0.out _).mono ?_
  rintro e u2 ⟨rfl, hb⟩
  have R_C_2 := Lib.hid (R_C_1.out.under hb R_C_1.out.lt)
  have BT2 := Lib.hid (BT1.out.trans (hb.mono BT1.out.size))
  clear hb BT1 R_C_1
  clear HN0
  go_upto_region 3 with (first | (refine wpList_plain rfl fun _ hK => wp_store_row 31 (.tmp 3) (.tmp 18) rfl u2.heap.size (recC (rcK 0 0)) rfl rfl 31 _ (Rw.new u2 _ 31) i19 rfl (recC_one _) (hK _ _ ?_); clear hK))
  obtain ⟨Q, hY⟩ : ∃ X, X = u2.heap.size := ⟨_, rfl⟩
  rw [← hY]
  refine name_w (fun W => Rw W C (stC ⟨5, 0, 1, 2, 1, 1, true, true, 3, 0, 0, 5⟩) 25 ∧ Rw W Q (recC (rcK 0 0)) 31 ∧ Below w.heap.size w W) ?_ ?_
  · have bb := below_setRow ((Below.refl u2.heap.size u2).alloc (Nat.le_refl _) (.cells (recC (rcK 0 0)) 31)) (Nat.le_refl _) (b := u2.heap.size) (recC (rcK 0 0))
    rw [hY]
    exact ⟨R_C_2.out.under bb R_C_2.out.lt, (Rw.new u2 _ 31).set (recC (rcK 0 0)), BT2.out.trans (bb.mono BT2.out.size)⟩
  clear hY BT2 R_C_2
  rintro u3 ⟨h0, h1, h2⟩
  have R_C_3 := Lib.hid h0
  have R_Q_3 := Lib.hid h1
  have BT3 := Lib.hid h2
  clear h0 h1 h2
  go_wp2_with (first | (refine wpList_load_any (by rfl) 25 (.tmp 1) rfl C rfl 25 (stC ⟨5, 0, 1, 2, 1, 1, true, true, 3, 0, 0, 5⟩) (0, 0) _ R_C_3.out Try.underlying25 rfl i12 ?_))
  refine (HN1.out _).mono ?_
  rintro e u4 ⟨rfl, hb⟩
  have R_C_4 := Lib.hid (R_C_3.out.under hb R_C_3.out.lt)
  have R_Q_4 := Lib.hid (R_Q_3.out.under hb R_Q_3.out.lt)
  have BT4 := Lib.hid (BT3.out.trans (hb.mono BT3.out.size))
  clear hb BT3 R_C_3 R_Q_3
  clear HN1
  go_upto_region 4 with (first | (refine wpList_plain rfl fun _ hK => wp_store_row 31 (.tmp 5) (.tmp 24) rfl u4.heap.size (recC (rcK 10 0)) rfl rfl 31 _ (Rw.new u4 _ 31) i19 rfl (recC_one _) (hK _ _ ?_); clear hK))
  obtain ⟨R, hY⟩ : ∃ X, X = u4.heap.size := ⟨_, rfl⟩
  rw [← hY]
  refine name_w (fun W => Rw W C (stC ⟨5, 0, 1, 2, 1, 1, true, true, 3, 0, 0, 5⟩) 25 ∧ Rw W Q (recC (rcK 0 0)) 31 ∧ Rw W R (recC (rcK 10 0)) 31 ∧ Below w.heap.size w W) ?_ ?_
  · have bb := below_setRow ((Below.refl u4.heap.size u4).alloc (Nat.le_refl _) (.cells (recC (rcK 0 0)) 31)) (Nat.le_refl _) (b := u4.heap.size) (recC (rcK 10 0))
    rw [hY]
    exact ⟨R_C_4.out.under bb R_C_4.out.lt, R_Q_4.out.under bb R_Q_4.out.lt, (Rw.new u4 _ 31).set (recC (rcK 10 0)), BT4.out.trans (bb.mono BT4.out.size)⟩
  clear hY BT4 R_C_4 R_Q_4
  rintro u5 ⟨h0, h1, h2, h3⟩
  have R_C_5 := Lib.hid h0
  have R_Q_5 := Lib.hid h1
  have R_R_5 := Lib.hid h2
  have BT5 := Lib.hid h3
  clear h0 h1 h2 h3
  have c0 : u5.cell? ⟨C, 0, none⟩ = some (.int .i64 5) := by rw [R_C_5.out.cell 0]; rfl
  have q0 := R_C_5.out.fr 0
  go_upto_region 5 with (fail)
  have nq : Q ≠ C := fun e => by have h1 := R_Q_5.out; have h2 := R_C_5.out; unfold Rw at h1 h2; rw [e, h2] at h1; simp at h1
  have nr : R ≠ C := fun e => by have h1 := R_R_5.out; have h2 := R_C_5.out; unfold Rw at h1 h2; rw [e, h2] at h1; simp at h1
  refine name_w (fun W => Rw W C (stC ⟨3, 0, 1, 2, 1, 1, true, true, 3, 0, 0, 5⟩) 25 ∧ Rw W Q (recC (rcK 0 0)) 31 ∧ Rw W R (recC (rcK 10 0)) 31 ∧ Below w.heap.size w W) ⟨R_C_5.out.setc 0 _, (Below.heap_setCell _ ⟨C, 0, none⟩ _ Q nq).trans R_Q_5.out, (Below.heap_setCell _ ⟨C, 0, none⟩ _ R nr).trans R_R_5.out, below_setCell BT5.out HCW.out _⟩ ?_
  clear nq nr c0 q0 R_C_5 R_Q_5 R_R_5 BT5
  rintro u6 ⟨h0, h1, h2, h3⟩
  have R_C_6 := Lib.hid h0
  have R_Q_6 := Lib.hid h1
  have R_R_6 := Lib.hid h2
  have BT6 := Lib.hid h3
  clear h0 h1 h2 h3
  go_upto_region 6 with (first | (refine wpList_plain rfl fun _ hK => wp_store_row 27 (.tmp 6) (.tmp 28) rfl u6.heap.size (vwC ⟨1, 1, 0, 1⟩) rfl rfl 27 _ (Rw.new u6 _ 27) iv4 rfl (vwC_one _) (hK _ _ ?_); clear hK))
  obtain ⟨V, hY⟩ : ∃ X, X = u6.heap.size := ⟨_, rfl⟩
  rw [← hY]
  refine name_w (fun W => Rw W C (stC ⟨3, 0, 1, 2, 1, 1, true, true, 3, 0, 0, 5⟩) 25 ∧ Rw W Q (recC (rcK 0 0)) 31 ∧ Rw W R (recC (rcK 10 0)) 31 ∧ Rw W V (vwC ⟨1, 1, 0, 1⟩) 27 ∧ Below w.heap.size w W) ?_ ?_
  · have bb := below_setRow ((Below.refl u6.heap.size u6).alloc (Nat.le_refl _) (.cells (vwC ⟨0, 0, 0, 0⟩) 27)) (Nat.le_refl _) (b := u6.heap.size) (vwC ⟨1, 1, 0, 1⟩)
    rw [hY]
    exact ⟨R_C_6.out.under bb R_C_6.out.lt, R_Q_6.out.under bb R_Q_6.out.lt, R_R_6.out.under bb R_R_6.out.lt, (Rw.new u6 _ 27).set (vwC ⟨1, 1, 0, 1⟩), BT6.out.trans (bb.mono BT6.out.size)⟩
  clear hY BT6 R_C_6 R_Q_6 R_R_6
  rintro u7 ⟨h0, h1, h2, h3, h4⟩
  have R_C_7 := Lib.hid h0
  have R_Q_7 := Lib.hid h1
  have R_R_7 := Lib.hid h2
  have R_V_7 := Lib.hid h3
  have BT7 := Lib.hid h4
  clear h0 h1 h2 h3 h4
  go_wp2_with (first | (refine wpList_load_any (by rfl) 25 (.tmp 1) rfl C rfl 25 (stC ⟨3, 0, 1, 2, 1, 1, true, true, 3, 0, 0, 5⟩) (0, 0) _ R_C_7.out Try.underlying25 rfl i12 ?_) | (refine wpList_load_any (by rfl) 27 (.tmp 6) rfl V rfl 27 (vwC ⟨1, 1, 0, 1⟩) (0, 0) _ R_V_7.out Try.underlying27 rfl iv4 ?_))
  refine (HN2.out _).mono ?_
  rintro e u8 ⟨rfl, hb⟩
  have R_C_8 := Lib.hid (R_C_7.out.under hb R_C_7.out.lt)
  have R_Q_8 := Lib.hid (R_Q_7.out.under hb R_Q_7.out.lt)
  have R_R_8 := Lib.hid (R_R_7.out.under hb R_R_7.out.lt)
  have R_V_8 := Lib.hid (R_V_7.out.under hb R_V_7.out.lt)
  have BT8 := Lib.hid (BT7.out.trans (hb.mono BT7.out.size))
  clear hb BT7 R_C_7 R_Q_7 R_R_7 R_V_7
  clear HN2
  go_upto_region 7 with (first | (refine wpList_plain rfl fun _ hK => wp_store_row 31 (.tmp 8) (.tmp 34) rfl u8.heap.size (recC (rcK 5 1)) rfl rfl 31 _ (Rw.new u8 _ 31) i19 rfl (recC_one _) (hK _ _ ?_); clear hK))
  obtain ⟨P, hY⟩ : ∃ X, X = u8.heap.size := ⟨_, rfl⟩
  rw [← hY]
  refine name_w (fun W => Rw W C (stC ⟨3, 0, 1, 2, 1, 1, true, true, 3, 0, 0, 5⟩) 25 ∧ Rw W Q (recC (rcK 0 0)) 31 ∧ Rw W R (recC (rcK 10 0)) 31 ∧ Rw W V (vwC ⟨1, 1, 0, 1⟩) 27 ∧ Rw W P (recC (rcK 5 1)) 31 ∧ Below w.heap.size w W) ?_ ?_
  · have bb := below_setRow ((Below.refl u8.heap.size u8).alloc (Nat.le_refl _) (.cells (recC (rcK 0 0)) 31)) (Nat.le_refl _) (b := u8.heap.size) (recC (rcK 5 1))
    rw [hY]
    exact ⟨R_C_8.out.under bb R_C_8.out.lt, R_Q_8.out.under bb R_Q_8.out.lt, R_R_8.out.under bb R_R_8.out.lt, R_V_8.out.under bb R_V_8.out.lt, (Rw.new u8 _ 31).set (recC (rcK 5 1)), BT8.out.trans (bb.mono BT8.out.size)⟩
  clear hY BT8 R_C_8 R_Q_8 R_R_8 R_V_8
  rintro u9 ⟨h0, h1, h2, h3, h4, h5⟩
  have R_C_9 := Lib.hid h0
  have R_Q_9 := Lib.hid h1
  have R_R_9 := Lib.hid h2
  have R_V_9 := Lib.hid h3
  have R_P_9 := Lib.hid h4
  have BT9 := Lib.hid h5
  clear h0 h1 h2 h3 h4 h5
  go_wp2_with (first | (refine wpList_load_any (by rfl) 31 (.tmp 3) rfl Q rfl 31 (recC (rcK 0 0)) (0, 0) _ R_Q_9.out Try.underlying31 rfl i19 ?_) | (refine wpList_load_any (by rfl) 31 (.tmp 5) rfl R rfl 31 (recC (rcK 10 0)) (0, 0) _ R_R_9.out Try.underlying31 rfl i19 ?_) | (refine wpList_load_any (by rfl) 31 (.tmp 8) rfl P rfl 31 (recC (rcK 5 1)) (0, 0) _ R_P_9.out Try.underlying31 rfl i19 ?_) | (refine wpList_load_any (by rfl) 25 (.tmp 1) rfl C rfl 25 (stC ⟨3, 0, 1, 2, 1, 1, true, true, 3, 0, 0, 5⟩) (0, 0) _ R_C_9.out Try.underlying25 rfl i12 ?_) | (refine wpList_load_any (by rfl) 27 (.tmp 6) rfl V rfl 27 (vwC ⟨1, 1, 0, 1⟩) (0, 0) _ R_V_9.out Try.underlying27 rfl iv4 ?_))
  refine (HU0.out _).mono ?_
  rintro e u10 ⟨rfl, hb⟩
  have R_C_10 := Lib.hid (R_C_9.out.under hb R_C_9.out.lt)
  have R_Q_10 := Lib.hid (R_Q_9.out.under hb R_Q_9.out.lt)
  have R_R_10 := Lib.hid (R_R_9.out.under hb R_R_9.out.lt)
  have R_V_10 := Lib.hid (R_V_9.out.under hb R_V_9.out.lt)
  have R_P_10 := Lib.hid (R_P_9.out.under hb R_P_9.out.lt)
  have BT10 := Lib.hid (BT9.out.trans (hb.mono BT9.out.size))
  clear hb BT9 R_C_9 R_Q_9 R_R_9 R_V_9 R_P_9
  clear HU0
  go_wp2_with (first | (refine wpList_load_any (by rfl) 25 (.tmp 1) rfl C rfl 25 (stC ⟨3, 0, 1, 2, 1, 1, true, true, 3, 0, 0, 5⟩) (0, 0) _ R_C_10.out Try.underlying25 rfl i12 ?_) | (refine wpList_load_any (by rfl) 27 (.tmp 6) rfl V rfl 27 (vwC ⟨1, 1, 0, 1⟩) (0, 0) _ R_V_10.out Try.underlying27 rfl iv4 ?_))
  refine (HU1.out _).mono ?_
  rintro e u11 ⟨rfl, hb⟩
  have R_C_11 := Lib.hid (R_C_10.out.under hb R_C_10.out.lt)
  have R_Q_11 := Lib.hid (R_Q_10.out.under hb R_Q_10.out.lt)
  have R_R_11 := Lib.hid (R_R_10.out.under hb R_R_10.out.lt)
  have R_V_11 := Lib.hid (R_V_10.out.under hb R_V_10.out.lt)
  have R_P_11 := Lib.hid (R_P_10.out.under hb R_P_10.out.lt)
  have BT11 := Lib.hid (BT10.out.trans (hb.mono BT10.out.size))
  clear hb BT10 R_C_10 R_Q_10 R_R_10 R_V_10 R_P_10
  clear HU1
  go_wp2_with (first | (refine wpList_load_any (by rfl) 25 (.tmp 1) rfl C rfl 25 (stC ⟨3, 0, 1, 2, 1, 1, true, true, 3, 0, 0, 5⟩) (0, 0) _ R_C_11.out Try.underlying25 rfl i12 ?_) | (refine wpList_load_any (by rfl) 27 (.tmp 6) rfl V rfl 27 (vwC ⟨1, 1, 0, 1⟩) (0, 0) _ R_V_11.out Try.underlying27 rfl iv4 ?_))
  refine (HU2.out _).mono ?_
  rintro e u12 ⟨rfl, hb⟩
  have R_C_12 := Lib.hid (R_C_11.out.under hb R_C_11.out.lt)
  have R_Q_12 := Lib.hid (R_Q_11.out.under hb R_Q_11.out.lt)
  have R_R_12 := Lib.hid (R_R_11.out.under hb R_R_11.out.lt)
  have R_V_12 := Lib.hid (R_V_11.out.under hb R_V_11.out.lt)
  have R_P_12 := Lib.hid (R_P_11.out.under hb R_P_11.out.lt)
  have BT12 := Lib.hid (BT11.out.trans (hb.mono BT11.out.size))
  clear hb BT11 R_C_11 R_Q_11 R_R_11 R_V_11 R_P_11
  clear HU2
  go_wp2_with fail
  go_ret
  exact ⟨rfl, BT12.out⟩
end Go.Proofs.Ytmodacieflcheaa
