/-
  awake: answers that the document fixes.
-/
import Derived.Test.YtakjehioadpldaaMayB
import Derived.Test.YtakjehioadpldaaLaw
namespace Go.Proofs.Ytakjehioadpldaa
open Go.RowKit

theorem i5 : (Try.prog.info? 27).map (·.size) = some 5 := by kernel_rfl
set_option maxRecDepth 100000 in
set_option maxHeartbeats 8000000 in
theorem awake_any (hp : PkgM) (w : World) : Calls Try.prog 8 #[] w fun e w' => e = .returned (.bool true) ∧ Below w.heap.size w w' := by
  have HK := Lib.hid hp
  clear hp
  have HR0 : rightS (firstS 1 2) = true := by decide
  have HF0 : FitsS (firstS 1 2) := right_fits HR0
  have fo : ∀ a b c d : Int, ∀ x : Bool, 0 ≤ a ∧ a ≤ 1073741824 → 0 ≤ b ∧ b ≤ 1073741824 → 0 ≤ c ∧ c ≤ 1073741824 → 0 ≤ d ∧ d ≤ 1073741824 → FitsO ⟨a, b, c, d, x⟩ := fun a b c d x h1 h2 h3 h4 => ⟨fits_small h1.1 h1.2, fits_small h2.1 h2.2, fits_small h3.1 h3.2, fits_small h4.1 h4.2⟩
  have HF : Hid (∀ W, Calls Try.prog 15 #[.int .i64 1, .int .i64 2] W fun e w' => e = .returned (.agg (stC (firstS 1 2))) ∧ Below W.heap.size W w') := Lib.hid (mfirst_any 1 2)
  have HC0 : Hid (∀ W, Calls Try.prog 10 #[.agg (stC (firstS 1 2)), .agg (opC ⟨2, 0, 0, 0, false⟩), .int .i64 0] W fun e w' => e = .returned (.int .i64 7) ∧ Below W.heap.size W w') := Lib.hid (fun W => by have h := HK.out.check (firstS 1 2) ⟨2, 0, 0, 0, false⟩ 0 W HR0 HF0 (fo _ _ _ _ _ (by decide) (by decide) (by decide) (by decide)) (fits_small (by decide) (by decide)); rw [show chkS (firstS 1 2) ⟨2, 0, 0, 0, false⟩ 0 = 7 from by decide] at h; exact h)
  have HC1 : Hid (∀ W, Calls Try.prog 10 #[.agg (stC (firstS 1 2)), .agg (opC ⟨1, 1, 1, 0, false⟩), .int .i64 0] W fun e w' => e = .returned (.int .i64 8) ∧ Below W.heap.size W w') := Lib.hid (fun W => by have h := HK.out.check (firstS 1 2) ⟨1, 1, 1, 0, false⟩ 0 W HR0 HF0 (fo _ _ _ _ _ (by decide) (by decide) (by decide) (by decide)) (fits_small (by decide) (by decide)); rw [show chkS (firstS 1 2) ⟨1, 1, 1, 0, false⟩ 0 = 8 from by decide] at h; exact h)
  have HC2 : Hid (∀ W, Calls Try.prog 10 #[.agg (stC (firstS 1 2)), .agg (opC ⟨1, 2, 3, 4, true⟩), .int .i64 0] W fun e w' => e = .returned (.int .i64 0) ∧ Below W.heap.size W w') := Lib.hid (fun W => by have h := HK.out.check (firstS 1 2) ⟨1, 2, 3, 4, true⟩ 0 W HR0 HF0 (fo _ _ _ _ _ (by decide) (by decide) (by decide) (by decide)) (fits_small (by decide) (by decide)); rw [show chkS (firstS 1 2) ⟨1, 2, 3, 4, true⟩ 0 = 0 from by decide] at h; exact h)
  have HC3 : Hid (∀ W, Calls Try.prog 10 #[.agg (stC (firstS 1 2)), .agg (opC ⟨1, 2, 3, 4, true⟩), .int .i64 1073741824] W fun e w' => e = .returned (.int .i64 9) ∧ Below W.heap.size W w') := Lib.hid (fun W => by have h := HK.out.check (firstS 1 2) ⟨1, 2, 3, 4, true⟩ 1073741824 W HR0 HF0 (fo _ _ _ _ _ (by decide) (by decide) (by decide) (by decide)) (fits_small (by decide) (by decide)); rw [show chkS (firstS 1 2) ⟨1, 2, 3, 4, true⟩ 1073741824 = 9 from by decide] at h; exact h)
  have HC4 : Hid (∀ W, Calls Try.prog 10 #[.agg (stC (firstS 1 2)), .agg (opC ⟨0, 0, 0, 0, false⟩), .int .i64 0] W fun e w' => e = .returned (.int .i64 6) ∧ Below W.heap.size W w') := Lib.hid (fun W => by have h := HK.out.check (firstS 1 2) ⟨0, 0, 0, 0, false⟩ 0 W HR0 HF0 (fo _ _ _ _ _ (by decide) (by decide) (by decide) (by decide)) (fits_small (by decide) (by decide)); rw [show chkS (firstS 1 2) ⟨0, 0, 0, 0, false⟩ 0 = 6 from by decide] at h; exact h)
  have HRC : Hid (∀ W, Calls Try.prog 12 #[.agg (opC ⟨1, 2, 3, 4, true⟩)] W fun e w' => e = .returned (.agg #[.int .i64 1, .int .i64 2, .int .i64 3, .int .i64 4, .int .i64 0, .int .i64 0, .bool false, .int .i64 0, .int .i64 0, .int .i64 0, .int .i64 0, .int .i64 0, .int .i64 0, .bool false, .bool false, .int .i64 0, .int .i64 0, .int .i64 0, .int .i64 0]) ∧ Below W.heap.size W w') := Lib.hid (fun W => HK.out.record ⟨1, 2, 3, 4, true⟩ W (fo _ _ _ _ _ (by decide) (by decide) (by decide) (by decide)))
  have eqR : ∀ W, (Op.equalIn 10000 35 (.agg #[.int .i64 1, .int .i64 2, .int .i64 3, .int .i64 4, .int .i64 0, .int .i64 0, .bool false, .int .i64 0, .int .i64 0, .int .i64 0, .int .i64 0, .int .i64 0, .int .i64 0, .bool false, .bool false, .int .i64 0, .int .i64 0, .int .i64 0, .int .i64 0]) (.agg #[.int .i64 1, .int .i64 2, .int .i64 3, .int .i64 4, .int .i64 0, .int .i64 0, .bool false, .int .i64 0, .int .i64 0, .int .i64 0, .int .i64 0, .int .i64 0, .int .i64 0, .bool false, .bool false, .int .i64 0, .int .i64 0, .int .i64 0, .int .i64 0])).run Try.prog W = .ok true W := eq35 (a := recO ⟨1, 2, 3, 4, true⟩) (fits_recO (fo _ _ _ _ _ (by decide) (by decide) (by decide) (by decide)))
  obtain ⟨cs, hcs⟩ : ∃ c, c = stC (firstS 1 2) := ⟨_, rfl⟩
  have HE_cs := Lib.hid hcs
  have HZ_cs : Hid (cs.size = 12) := Lib.hid (by rw [hcs]; rfl)
  have H1_cs : Hid (cs.all (·.oneCell') = true) := Lib.hid (by rw [hcs]; exact stC_one _)
  rw [← hcs] at HF HC0 HC1 HC2 HC3 HC4
  clear hcs HR0 HF0 fo
  go_enter Try.func8, Try.ntmps8
  go_wp2_with fail
  refine (HF.out w).mono ?_
  rintro e u0 ⟨rfl, hb⟩
  have BT0 := Lib.hid hb
  clear hb HF
  go_upto_region 2 with (first | (refine wpList_plain rfl fun _ hK => wp_store_row 25 (.tmp 1) (.tmp 3) rfl u0.heap.size cs rfl rfl 25 _ (Rw.new u0 _ 25) (by rw [HZ_cs.out]; exact i12) (by rw [HZ_cs.out]; rfl) (H1_cs.out) (hK _ _ ?_); clear hK))
  obtain ⟨C, hY⟩ : ∃ X, X = u0.heap.size := ⟨_, rfl⟩
  rw [← hY]
  refine name_w (fun W => Rw W C cs 25 ∧ Below w.heap.size w W) ?_ ?_
  · have bb := below_setRow ((Below.refl u0.heap.size u0).alloc (Nat.le_refl _) (.cells (stC zeroS) 25)) (Nat.le_refl _) (b := u0.heap.size) cs
    rw [hY]
    exact ⟨(Rw.new u0 _ 25).set cs, BT0.out.trans (bb.mono BT0.out.size)⟩
  clear hY BT0 
  rintro u1 ⟨h0, h1⟩
  have R_C_1 := Lib.hid h0
  have BT1 := Lib.hid h1
  clear h0 h1
  go_upto_region 3 with (first | (refine wpList_plain rfl fun _ hK => wp_store_row 27 (.tmp 2) (.tmp 4) rfl u1.heap.size (opC ⟨1, 2, 3, 4, true⟩) rfl rfl 27 _ (Rw.new u1 _ 27) i5 rfl (opC_one _) (hK _ _ ?_); clear hK))
  obtain ⟨O, hY⟩ : ∃ X, X = u1.heap.size := ⟨_, rfl⟩
  rw [← hY]
  refine name_w (fun W => Rw W C cs 25 ∧ Rw W O (opC ⟨1, 2, 3, 4, true⟩) 27 ∧ Below w.heap.size w W) ?_ ?_
  · have bb := below_setRow ((Below.refl u1.heap.size u1).alloc (Nat.le_refl _) (.cells (opC ⟨0, 0, 0, 0, false⟩) 27)) (Nat.le_refl _) (b := u1.heap.size) (opC ⟨1, 2, 3, 4, true⟩)
    rw [hY]
    exact ⟨R_C_1.out.under bb R_C_1.out.lt, (Rw.new u1 _ 27).set (opC ⟨1, 2, 3, 4, true⟩), BT1.out.trans (bb.mono BT1.out.size)⟩
  clear hY BT1 R_C_1
  rintro u2 ⟨h0, h1, h2⟩
  have R_C_2 := Lib.hid h0
  have R_O_2 := Lib.hid h1
  have BT2 := Lib.hid h2
  clear h0 h1 h2
  go_wp2_with (first | (refine wpList_load_any (by rfl) 25 (.tmp 1) rfl C rfl 25 cs (0, 0) _ R_C_2.out Try.underlying25 rfl (by rw [HZ_cs.out]; exact i12) ?_))
  refine (HC0.out _).mono ?_
  rintro e u3 ⟨rfl, hb⟩
  have R_C_3 := Lib.hid (R_C_2.out.under hb R_C_2.out.lt)
  have R_O_3 := Lib.hid (R_O_2.out.under hb R_O_2.out.lt)
  have BT3 := Lib.hid (BT2.out.trans (hb.mono BT2.out.size))
  clear hb BT2 R_C_2 R_O_2
  clear HC0
  go_wp2_with (first | (refine wpList_load_any (by rfl) 25 (.tmp 1) rfl C rfl 25 cs (0, 0) _ R_C_3.out Try.underlying25 rfl (by rw [HZ_cs.out]; exact i12) ?_))
  refine (HC1.out _).mono ?_
  rintro e u4 ⟨rfl, hb⟩
  have R_C_4 := Lib.hid (R_C_3.out.under hb R_C_3.out.lt)
  have R_O_4 := Lib.hid (R_O_3.out.under hb R_O_3.out.lt)
  have BT4 := Lib.hid (BT3.out.trans (hb.mono BT3.out.size))
  clear hb BT3 R_C_3 R_O_3
  clear HC1
  go_wp2_with (first | (refine wpList_load_any (by rfl) 25 (.tmp 1) rfl C rfl 25 cs (0, 0) _ R_C_4.out Try.underlying25 rfl (by rw [HZ_cs.out]; exact i12) ?_) | (refine wpList_load_any (by rfl) 27 (.tmp 2) rfl O rfl 27 (opC ⟨1, 2, 3, 4, true⟩) (0, 0) _ R_O_4.out Try.underlying27 rfl i5 ?_))
  refine (HC2.out _).mono ?_
  rintro e u5 ⟨rfl, hb⟩
  have R_C_5 := Lib.hid (R_C_4.out.under hb R_C_4.out.lt)
  have R_O_5 := Lib.hid (R_O_4.out.under hb R_O_4.out.lt)
  have BT5 := Lib.hid (BT4.out.trans (hb.mono BT4.out.size))
  clear hb BT4 R_C_4 R_O_4
  clear HC2
  go_wp2_with (first | (refine wpList_load_any (by rfl) 25 (.tmp 1) rfl C rfl 25 cs (0, 0) _ R_C_5.out Try.underlying25 rfl (by rw [HZ_cs.out]; exact i12) ?_) | (refine wpList_load_any (by rfl) 27 (.tmp 2) rfl O rfl 27 (opC ⟨1, 2, 3, 4, true⟩) (0, 0) _ R_O_5.out Try.underlying27 rfl i5 ?_))
  refine (HC3.out _).mono ?_
  rintro e u6 ⟨rfl, hb⟩
  have R_C_6 := Lib.hid (R_C_5.out.under hb R_C_5.out.lt)
  have R_O_6 := Lib.hid (R_O_5.out.under hb R_O_5.out.lt)
  have BT6 := Lib.hid (BT5.out.trans (hb.mono BT5.out.size))
  clear hb BT5 R_C_5 R_O_5
  clear HC3
  go_wp2_with (first | (refine wpList_load_any (by rfl) 25 (.tmp 1) rfl C rfl 25 cs (0, 0) _ R_C_6.out Try.underlying25 rfl (by rw [HZ_cs.out]; exact i12) ?_))
  refine (HC4.out _).mono ?_
  rintro e u7 ⟨rfl, hb⟩
  have R_C_7 := Lib.hid (R_C_6.out.under hb R_C_6.out.lt)
  have R_O_7 := Lib.hid (R_O_6.out.under hb R_O_6.out.lt)
  have BT7 := Lib.hid (BT6.out.trans (hb.mono BT6.out.size))
  clear hb BT6 R_C_6 R_O_6
  clear HC4
  go_wp2_with (first | (refine wpList_load_any (by rfl) 27 (.tmp 2) rfl O rfl 27 (opC ⟨1, 2, 3, 4, true⟩) (0, 0) _ R_O_7.out Try.underlying27 rfl i5 ?_))
  refine (HRC.out _).mono ?_
  rintro e u8 ⟨rfl, hb⟩
  have R_C_8 := Lib.hid (R_C_7.out.under hb R_C_7.out.lt)
  have R_O_8 := Lib.hid (R_O_7.out.under hb R_O_7.out.lt)
  have BT8 := Lib.hid (BT7.out.trans (hb.mono BT7.out.size))
  clear hb BT7 R_C_7 R_O_7
  go_wp2_with fail
  go_ret
  exact ⟨rfl, BT8.out⟩
end Go.Proofs.Ytakjehioadpldaa
