/-
  What the document's own Get answers, of the Kind 11.
-/
import Derived.Test.YthombepmlepgfaaDoorMwit
import Derived.Test.YthombepmlepgfaaDoorAwak
import Derived.Test.YthombepmlepgfaaDoorRefGet
import Derived.Test.YthombepmlepgfaaDoorSize
namespace Go.Proofs.YthombepmlepgfaaDoor
open Go.RowKit

set_option maxRecDepth 100000 in
set_option maxHeartbeats 8000000 in
theorem mget9_11 (s : ByteArray) (w : World) (hs : s.size ≤ 20000) (n0 n1 n2 n3 n4 n5 n6 n7 n8 n9 n10 n11 : Nat) (hG : gets [] s.data.toList = (0, 11 :: [n0, n1, n2, n3, n4, n5, n6, n7, n8, n9, n10, n11])) : Calls Tryd.prog 13 #[.string s] w (GetR (rget s.data.toList) w) := by
  have HX : Hid (rget s.data.toList = if insideL [6, 7, 8, 9, 10, 11, 12, 13, 14, 15, 16, 17] [(n0 : Int), (n1 : Int), (n2 : Int), (n3 : Int), (n4 : Int), (n5 : Int), (n6 : Int), (n7 : Int), (n8 : Int), (n9 : Int), (n10 : Int), (n11 : Int)] then ((⟨11, 0, 0, 0, 0, 0, false, (n0 : Int), (n1 : Int), (n2 : Int), (n3 : Int), (n4 : Int), (n5 : Int), ((n6 : Int) == 1), ((n7 : Int) == 1), (n8 : Int), (n9 : Int), (n10 : Int), (n11 : Int)⟩ : Rc), 0) else (zeroR, 1)) := Lib.hid (by
    have h1 := insideL_map (fill [6, 7, 8, 9, 10, 11, 12, 13, 14, 15, 16, 17] [(n0 : Int), (n1 : Int), (n2 : Int), (n3 : Int), (n4 : Int), (n5 : Int), (n6 : Int), (n7 : Int), (n8 : Int), (n9 : Int), (n10 : Int), (n11 : Int)]) [6, 7, 8, 9, 10, 11, 12, 13, 14, 15, 16, 17]
    rw [show [6, 7, 8, 9, 10, 11, 12, 13, 14, 15, 16, 17].map (at_ (fill [6, 7, 8, 9, 10, 11, 12, 13, 14, 15, 16, 17] [(n0 : Int), (n1 : Int), (n2 : Int), (n3 : Int), (n4 : Int), (n5 : Int), (n6 : Int), (n7 : Int), (n8 : Int), (n9 : Int), (n10 : Int), (n11 : Int)])) = [(n0 : Int), (n1 : Int), (n2 : Int), (n3 : Int), (n4 : Int), (n5 : Int), (n6 : Int), (n7 : Int), (n8 : Int), (n9 : Int), (n10 : Int), (n11 : Int)] from rfl] at h1
    rw [h1]
    unfold rget
    rw [hG]
    rfl)
  have HC : Hid (∀ W, Calls Tryd.prog 14 #[.string s] W (GotL (0, 11 :: [n0, n1, n2, n3, n4, n5, n6, n7, n8, n9, n10, n11]) W)) := Lib.hid (fun W => by rw [← hG]; exact mget_any s W hs)
  have HMO : Hid (∀ W, Calls Tryd.prog 20 #[.int .i64 11] W (GotM W 11)) := Lib.hid (fun W => most_any _ W)
  have HWI : Hid (∀ v W, Vals W v (ints [(n0 : Int), (n1 : Int), (n2 : Int), (n3 : Int), (n4 : Int), (n5 : Int), (n6 : Int), (n7 : Int), (n8 : Int), (n9 : Int), (n10 : Int), (n11 : Int)]) → Calls Tryd.prog 23 #[.int .i64 11, v] W fun e w' => e = .returned (.bool (insideL [6, 7, 8, 9, 10, 11, 12, 13, 14, 15, 16, 17] [(n0 : Int), (n1 : Int), (n2 : Int), (n3 : Int), (n4 : Int), (n5 : Int), (n6 : Int), (n7 : Int), (n8 : Int), (n9 : Int), (n10 : Int), (n11 : Int)])) ∧ Below W.heap.size W w') := Lib.hid (fun v W hv => mwithin_any 11 [6, 7, 8, 9, 10, 11, 12, 13, 14, 15, 16, 17] [(n0 : Int), (n1 : Int), (n2 : Int), (n3 : Int), (n4 : Int), (n5 : Int), (n6 : Int), (n7 : Int), (n8 : Int), (n9 : Int), (n10 : Int), (n11 : Int)] v W rfl rfl hv)
  clear hG
  obtain ⟨zs, hzs⟩ : ∃ zs, zs = zeroC := ⟨_, rfl⟩
  have HZZ : Hid (zs.size = 19) := Lib.hid (by rw [hzs]; rfl)
  have HZ1 : Hid (zs.all (·.oneCell') = true) := Lib.hid (by rw [hzs]; exact recC_one _)
  have HZV : Hid (zs = recC zeroR) := Lib.hid hzs
  clear hzs
  go_enter Tryd.func13, Tryd.ntmps13
  go_upto_region 2 with (refine wpList_plain rfl fun _ hK => wp_store_row 27 (.tmp 4) (.tmp 11) rfl (w.heap.size + 1) _ rfl rfl 27 _ (heap_alloc2_new w _ _) (by kernel_rfl) rfl (by simp [Value.oneCell']) (hK _ _ ?_); clear hK)
  refine name_w (fun W => Rw W w.heap.size zs 27 ∧ Rw W (w.heap.size + 1) zs 27 ∧ Below w.heap.size w W) ⟨?_, ?_, below_setRow (((Below.refl _ _).alloc (Nat.le_refl _) _).alloc (by simp) _) (by omega) _⟩ ?_
  · rw [HZV.out]; exact (setRow_block _ _ _ _ (by omega)).trans ((Rw.new w zeroC 27).alloc _)
  · rw [HZV.out]; exact Rw.set (heap_alloc2_new w (.cells zeroC 27) (.cells zeroC 27)) _
  rintro w0 ⟨hA, hB, hb⟩
  have RA_w0 := Lib.hid hA
  have RB_w0 := Lib.hid hB
  have HB_w0 := Lib.hid hb
  clear hA hB hb
  go_wp2_with fail
  refine (HC.out _).mono ?_
  rintro e w1 ⟨u, rfl, ho, hb⟩
  have HB_w1 := Lib.hid (HB_w0.out.trans (hb.mono HB_w0.out.size))
  have RA_w1 := Lib.hid (RA_w0.out.under hb RA_w0.out.lt)
  have RB_w1 := Lib.hid (RB_w0.out.under hb RB_w0.out.lt)
  have HU1 := Lib.hid (Vals.of_own ho)
  clear hb ho RA_w0 RB_w0 HB_w0
  obtain ⟨b, off, c, rfl, hcc, hbb, hxx⟩ := HU1.out.full (by simp [nums, ints])
  have hcc' : 13 ≤ c := hcc
  have k0 : w1.cell? ⟨b, off, none⟩ = some (.int .i64 11) := hxx 0 _ rfl
  have y0 : w1.cell? ⟨b, off + 1, none⟩ = some (.int .i64 (n0 : Int)) := hxx 1 _ rfl
  have y1 : w1.cell? ⟨b, off + 2, none⟩ = some (.int .i64 (n1 : Int)) := hxx 2 _ rfl
  have y2 : w1.cell? ⟨b, off + 3, none⟩ = some (.int .i64 (n2 : Int)) := hxx 3 _ rfl
  have y3 : w1.cell? ⟨b, off + 4, none⟩ = some (.int .i64 (n3 : Int)) := hxx 4 _ rfl
  have y4 : w1.cell? ⟨b, off + 5, none⟩ = some (.int .i64 (n4 : Int)) := hxx 5 _ rfl
  have y5 : w1.cell? ⟨b, off + 6, none⟩ = some (.int .i64 (n5 : Int)) := hxx 6 _ rfl
  have y6 : w1.cell? ⟨b, off + 7, none⟩ = some (.int .i64 (n6 : Int)) := hxx 7 _ rfl
  have y7 : w1.cell? ⟨b, off + 8, none⟩ = some (.int .i64 (n7 : Int)) := hxx 8 _ rfl
  have y8 : w1.cell? ⟨b, off + 9, none⟩ = some (.int .i64 (n8 : Int)) := hxx 9 _ rfl
  have y9 : w1.cell? ⟨b, off + 10, none⟩ = some (.int .i64 (n9 : Int)) := hxx 10 _ rfl
  have y10 : w1.cell? ⟨b, off + 11, none⟩ = some (.int .i64 (n10 : Int)) := hxx 11 _ rfl
  have y11 : w1.cell? ⟨b, off + 12, none⟩ = some (.int .i64 (n11 : Int)) := hxx 12 _ rfl
  rw [show (nums (0, 11 :: [n0, n1, n2, n3, n4, n5, n6, n7, n8, n9, n10, n11]).2).length = 13 from rfl]
  obtain ⟨m, rfl⟩ : ∃ m, c = m + 2 := ⟨c - 2, by omega⟩
  have HV1 : Hid (Vals w1 (.slice (some ⟨b, off + 1, none⟩) 12 (m + 1)) (ints [(n0 : Int), (n1 : Int), (n2 : Int), (n3 : Int), (n4 : Int), (n5 : Int), (n6 : Int), (n7 : Int), (n8 : Int), (n9 : Int), (n10 : Int), (n11 : Int)])) := Lib.hid (vals_tail (x := .int .i64 11) (xs := ints [(n0 : Int), (n1 : Int), (n2 : Int), (n3 : Int), (n4 : Int), (n5 : Int), (n6 : Int), (n7 : Int), (n8 : Int), (n9 : Int), (n10 : Int), (n11 : Int)]) (c := m + 2) hxx hcc' hbb)
  clear hcc hxx
  go_wp2_with fail
  refine (HMO.out _).mono ?_
  rintro e w2 ⟨v, rfl, hv, hb⟩
  rw [show kindF 11 = some [6, 7, 8, 9, 10, 11, 12, 13, 14, 15, 16, 17] from rfl] at hv ⊢
  obtain ⟨A2, c2, rfl⟩ : ∃ A c, v = .slice A 12 c := by
    obtain ⟨A, c, h⟩ := hv.slice
    exact ⟨A, c, h⟩
  have HB_w2 := Lib.hid (HB_w1.out.trans (hb.mono HB_w1.out.size))
  have RA_w2 := Lib.hid (RA_w1.out.under hb RA_w1.out.lt)
  have RB_w2 := Lib.hid (RB_w1.out.under hb RB_w1.out.lt)
  have k2 : w2.cell? ⟨b, off, none⟩ = some (.int .i64 11) := (hb.cell (p := ⟨b, off, none⟩) hbb).trans k0
  have z0 : w2.cell? ⟨b, off + 1, none⟩ = some (.int .i64 (n0 : Int)) := (hb.cell (p := ⟨b, off + 1, none⟩) hbb).trans y0
  have z1 : w2.cell? ⟨b, off + 2, none⟩ = some (.int .i64 (n1 : Int)) := (hb.cell (p := ⟨b, off + 2, none⟩) hbb).trans y1
  have z2 : w2.cell? ⟨b, off + 3, none⟩ = some (.int .i64 (n2 : Int)) := (hb.cell (p := ⟨b, off + 3, none⟩) hbb).trans y2
  have z3 : w2.cell? ⟨b, off + 4, none⟩ = some (.int .i64 (n3 : Int)) := (hb.cell (p := ⟨b, off + 4, none⟩) hbb).trans y3
  have z4 : w2.cell? ⟨b, off + 5, none⟩ = some (.int .i64 (n4 : Int)) := (hb.cell (p := ⟨b, off + 5, none⟩) hbb).trans y4
  have z5 : w2.cell? ⟨b, off + 6, none⟩ = some (.int .i64 (n5 : Int)) := (hb.cell (p := ⟨b, off + 6, none⟩) hbb).trans y5
  have z6 : w2.cell? ⟨b, off + 7, none⟩ = some (.int .i64 (n6 : Int)) := (hb.cell (p := ⟨b, off + 7, none⟩) hbb).trans y6
  have z7 : w2.cell? ⟨b, off + 8, none⟩ = some (.int .i64 (n7 : Int)) := (hb.cell (p := ⟨b, off + 8, none⟩) hbb).trans y7
  have z8 : w2.cell? ⟨b, off + 9, none⟩ = some (.int .i64 (n8 : Int)) := (hb.cell (p := ⟨b, off + 9, none⟩) hbb).trans y8
  have z9 : w2.cell? ⟨b, off + 10, none⟩ = some (.int .i64 (n9 : Int)) := (hb.cell (p := ⟨b, off + 10, none⟩) hbb).trans y9
  have z10 : w2.cell? ⟨b, off + 11, none⟩ = some (.int .i64 (n10 : Int)) := (hb.cell (p := ⟨b, off + 11, none⟩) hbb).trans y10
  have z11 : w2.cell? ⟨b, off + 12, none⟩ = some (.int .i64 (n11 : Int)) := (hb.cell (p := ⟨b, off + 12, none⟩) hbb).trans y11
  have HV2 := Lib.hid (HV1.out.under hb)
  have hb2 : b < w2.heap.size := Nat.lt_of_lt_of_le hbb hb.size
  clear hb hv k0 RA_w1 RB_w1 HB_w1 HU1 y0 y1 y2 y3 y4 y5 y6 y7 y8 y9 y10 y11 HV1
  go_wp2_with fail
  refine (HWI.out _ _ HV2.out).mono ?_
  rintro e w3 ⟨rfl, hb⟩
  have HB_w3 := Lib.hid (HB_w2.out.trans (hb.mono HB_w2.out.size))
  have RA_w3 := Lib.hid (RA_w2.out.under hb RA_w2.out.lt)
  have RB_w3 := Lib.hid (RB_w2.out.under hb RB_w2.out.lt)
  have x0 : w3.cell? ⟨b, off + 1, none⟩ = some (.int .i64 (n0 : Int)) := (hb.cell (p := ⟨b, off + 1, none⟩) hb2).trans z0
  have x1 : w3.cell? ⟨b, off + 2, none⟩ = some (.int .i64 (n1 : Int)) := (hb.cell (p := ⟨b, off + 2, none⟩) hb2).trans z1
  have x2 : w3.cell? ⟨b, off + 3, none⟩ = some (.int .i64 (n2 : Int)) := (hb.cell (p := ⟨b, off + 3, none⟩) hb2).trans z2
  have x3 : w3.cell? ⟨b, off + 4, none⟩ = some (.int .i64 (n3 : Int)) := (hb.cell (p := ⟨b, off + 4, none⟩) hb2).trans z3
  have x4 : w3.cell? ⟨b, off + 5, none⟩ = some (.int .i64 (n4 : Int)) := (hb.cell (p := ⟨b, off + 5, none⟩) hb2).trans z4
  have x5 : w3.cell? ⟨b, off + 6, none⟩ = some (.int .i64 (n5 : Int)) := (hb.cell (p := ⟨b, off + 6, none⟩) hb2).trans z5
  have x6 : w3.cell? ⟨b, off + 7, none⟩ = some (.int .i64 (n6 : Int)) := (hb.cell (p := ⟨b, off + 7, none⟩) hb2).trans z6
  have x7 : w3.cell? ⟨b, off + 8, none⟩ = some (.int .i64 (n7 : Int)) := (hb.cell (p := ⟨b, off + 8, none⟩) hb2).trans z7
  have x8 : w3.cell? ⟨b, off + 9, none⟩ = some (.int .i64 (n8 : Int)) := (hb.cell (p := ⟨b, off + 9, none⟩) hb2).trans z8
  have x9 : w3.cell? ⟨b, off + 10, none⟩ = some (.int .i64 (n9 : Int)) := (hb.cell (p := ⟨b, off + 10, none⟩) hb2).trans z9
  have x10 : w3.cell? ⟨b, off + 11, none⟩ = some (.int .i64 (n10 : Int)) := (hb.cell (p := ⟨b, off + 11, none⟩) hb2).trans z10
  have x11 : w3.cell? ⟨b, off + 12, none⟩ = some (.int .i64 (n11 : Int)) := (hb.cell (p := ⟨b, off + 12, none⟩) hb2).trans z11
  have hb3 : b < w3.heap.size := Nat.lt_of_lt_of_le hb2 hb.size
  clear hb k2 RA_w2 RB_w2 HB_w2 z0 z1 z2 z3 z4 z5 z6 z7 z8 z9 z10 z11
  by_cases hin : insideL [6, 7, 8, 9, 10, 11, 12, 13, 14, 15, 16, 17] [(n0 : Int), (n1 : Int), (n2 : Int), (n3 : Int), (n4 : Int), (n5 : Int), (n6 : Int), (n7 : Int), (n8 : Int), (n9 : Int), (n10 : Int), (n11 : Int)] = true
  case neg =>
    rw [show insideL [6, 7, 8, 9, 10, 11, 12, 13, 14, 15, 16, 17] [(n0 : Int), (n1 : Int), (n2 : Int), (n3 : Int), (n4 : Int), (n5 : Int), (n6 : Int), (n7 : Int), (n8 : Int), (n9 : Int), (n10 : Int), (n11 : Int)] = false by simpa using hin]
    rw [if_neg hin] at HX
    clear hin
    have ZS := Lib.hid (RA_w3.out.set zs)
    have BS := Lib.hid (below_setRow HB_w3.out (Nat.le_refl _) zs)
    go_wp2_with (first | (refine wpList_load_row rfl 27 (.tmp 4) rfl (w.heap.size + 1) rfl 27 zs (0, 0) _ RB_w3.out Tryd.underlying27 rfl (by rw [HZZ.out]; exact i19) ?_) | (refine wpList_plain rfl fun _ hK => wp_store_row 27 (.tmp 2) (.tmp 51) rfl w.heap.size zs rfl rfl 27 _ RA_w3.out (by rw [HZZ.out]; exact i19) rfl HZ1.out (hK _ _ ?_); clear hK))
    (try simp only [Exit.inBlock, Exit.then])
    refine bodyPost_ret (results_cell_tmp rfl _ _ w.heap.size 27 zs (0, 0) _ rfl ZS.out Tryd.underlying27 rfl (by rw [HZZ.out]; exact i19)) rfl ?_
    exact ⟨by rw [HX.out, HZV.out]; rfl, BS.out⟩
  rw [hin]
  rw [if_pos hin] at HX
  obtain ⟨q6, hq6⟩ : ∃ q : Bool, q = ((n6 : Int) == 1) := ⟨_, rfl⟩
  have g6 : decide (0 < (n6 : Int)) = q6 := by
    rw [hq6]
    simp [insideL, at_, los, his] at hin
    rw [Bool.eq_iff_iff]
    simp
    omega
  have g6' : decide (0 < n6) = q6 := by
    rw [← g6]; simp
  rw [← hq6] at HX
  clear hq6
  obtain ⟨q7, hq7⟩ : ∃ q : Bool, q = ((n7 : Int) == 1) := ⟨_, rfl⟩
  have g7 : decide (0 < (n7 : Int)) = q7 := by
    rw [hq7]
    simp [insideL, at_, los, his] at hin
    rw [Bool.eq_iff_iff]
    simp
    omega
  have g7' : decide (0 < n7) = q7 := by
    rw [← g7]; simp
  rw [← hq7] at HX
  clear hq7
  clear hin
  go_upto_region 17 with (refine wpList_plain rfl fun _ hK => wp_store_row 27 (.tmp 10) (.tmp 53) rfl w3.heap.size _ rfl rfl 27 _ (Rw.new w3 _ 27) (by kernel_rfl) rfl (by simp [Value.oneCell']) (hK _ _ ?_); clear hK)
  refine name_w (fun W => Rw W w3.heap.size (recC (⟨11, 0, 0, 0, 0, 0, false, 0, 0, 0, 0, 0, 0, false, false, 0, 0, 0, 0⟩ : Rc)) 27 ∧ Below w3.heap.size w3 W) ⟨(Rw.new w3 zeroC 27).set _, below_setRow ((Below.refl _ _).alloc (Nat.le_refl _) _) (Nat.le_refl _) _⟩ ?_
  rintro v0 ⟨hR, hb⟩
  have RT_v0 := Lib.hid hR
  have BT_v0 := Lib.hid hb
  clear hR hb
  have x0_v0 := (BT_v0.out.cell (p := ⟨b, off + 1, none⟩) hb3).trans x0
  have c6_v0 : v0.cell? ⟨w3.heap.size, 7, none⟩ = some (.int .i64 0) := by rw [RT_v0.out.cell 7]; rfl
  have fr6_v0 := RT_v0.out.fr 7
  go_upto_region 29 with (fail)
  refine name_w (fun W => Rw W w3.heap.size (recC (⟨11, 0, 0, 0, 0, 0, false, (n0 : Int), 0, 0, 0, 0, 0, false, false, 0, 0, 0, 0⟩ : Rc)) 27 ∧ Below w3.heap.size w3 W) ⟨(heap_setCell_same _ _ 7 _ 27 (.int .i64 (n0 : Int)) (RT_v0.out)), (below_setCell (BT_v0.out) (Nat.le_refl _) _)⟩ ?_
  clear x0_v0 c6_v0 fr6_v0
  rintro v1 ⟨hR, hb⟩
  have RT_v1 := Lib.hid hR
  have BT_v1 := Lib.hid hb
  clear hR hb
  have x1_v1 := (BT_v1.out.cell (p := ⟨b, off + 2, none⟩) hb3).trans x1
  have c7_v1 : v1.cell? ⟨w3.heap.size, 8, none⟩ = some (.int .i64 0) := by rw [RT_v1.out.cell 8]; rfl
  have fr7_v1 := RT_v1.out.fr 8
  go_upto_region 30 with (fail)
  refine name_w (fun W => Rw W w3.heap.size (recC (⟨11, 0, 0, 0, 0, 0, false, (n0 : Int), (n1 : Int), 0, 0, 0, 0, false, false, 0, 0, 0, 0⟩ : Rc)) 27 ∧ Below w3.heap.size w3 W) ⟨(heap_setCell_same _ _ 8 _ 27 (.int .i64 (n1 : Int)) (RT_v1.out)), (below_setCell (BT_v1.out) (Nat.le_refl _) _)⟩ ?_
  clear x1_v1 c7_v1 fr7_v1
  rintro v2 ⟨hR, hb⟩
  have RT_v2 := Lib.hid hR
  have BT_v2 := Lib.hid hb
  clear hR hb
  go_wp2_with fail
  refine still_named 9 (by kernel_rfl) (by kernel_rfl) (fun W => Rw W w3.heap.size (recC (⟨11, 0, 0, 0, 0, 0, false, (n0 : Int), (n1 : Int), 0, 0, 0, 0, false, false, 0, 0, 0, 0⟩ : Rc)) 27 ∧ Below w3.heap.size w3 W) ⟨RT_v2.out, below_drew BT_v2.out⟩ ?_
  rintro v2d ⟨hR, hb⟩
  have RT_v2d := Lib.hid hR
  have BT_v2d := Lib.hid hb
  clear hR hb
  simp only [List.take_succ_cons, List.take_zero, List.drop_succ_cons, List.drop_zero]
  have x2_v2d := (BT_v2d.out.cell (p := ⟨b, off + 3, none⟩) hb3).trans x2
  have x3_v2d := (BT_v2d.out.cell (p := ⟨b, off + 4, none⟩) hb3).trans x3
  have c8_v2d : v2d.cell? ⟨w3.heap.size, 9, none⟩ = some (.int .i64 0) := by rw [RT_v2d.out.cell 9]; rfl
  have fr8_v2d := RT_v2d.out.fr 9
  have c9_v2d : v2d.cell? ⟨w3.heap.size, 10, none⟩ = some (.int .i64 0) := by rw [RT_v2d.out.cell 10]; rfl
  have fr9_v2d := RT_v2d.out.fr 10
  repeat still_step
  refine wpStill_nil ?_
  go_upto_region 31 with (fail)
  refine name_w (fun W => Rw W w3.heap.size (recC (⟨11, 0, 0, 0, 0, 0, false, (n0 : Int), (n1 : Int), (n2 : Int), (n3 : Int), 0, 0, false, false, 0, 0, 0, 0⟩ : Rc)) 27 ∧ Below w3.heap.size w3 W) ⟨(heap_setCell_same _ _ 10 _ 27 (.int .i64 (n3 : Int)) ((heap_setCell_same _ _ 9 _ 27 (.int .i64 (n2 : Int)) (RT_v2d.out)))), (below_setCell ((below_setCell (BT_v2d.out) (Nat.le_refl _) _)) (Nat.le_refl _) _)⟩ ?_
  clear x2_v2d x3_v2d c8_v2d c9_v2d fr8_v2d fr9_v2d
  rintro v3 ⟨hR, hb⟩
  have RT_v3 := Lib.hid hR
  have BT_v3 := Lib.hid hb
  clear hR hb
  go_wp2_with fail
  refine still_named 9 (by kernel_rfl) (by kernel_rfl) (fun W => Rw W w3.heap.size (recC (⟨11, 0, 0, 0, 0, 0, false, (n0 : Int), (n1 : Int), (n2 : Int), (n3 : Int), 0, 0, false, false, 0, 0, 0, 0⟩ : Rc)) 27 ∧ Below w3.heap.size w3 W) ⟨RT_v3.out, below_drew BT_v3.out⟩ ?_
  rintro v3d ⟨hR, hb⟩
  have RT_v3d := Lib.hid hR
  have BT_v3d := Lib.hid hb
  clear hR hb
  simp only [List.take_succ_cons, List.take_zero, List.drop_succ_cons, List.drop_zero]
  have x4_v3d := (BT_v3d.out.cell (p := ⟨b, off + 5, none⟩) hb3).trans x4
  have x5_v3d := (BT_v3d.out.cell (p := ⟨b, off + 6, none⟩) hb3).trans x5
  have c10_v3d : v3d.cell? ⟨w3.heap.size, 11, none⟩ = some (.int .i64 0) := by rw [RT_v3d.out.cell 11]; rfl
  have fr10_v3d := RT_v3d.out.fr 11
  have c11_v3d : v3d.cell? ⟨w3.heap.size, 12, none⟩ = some (.int .i64 0) := by rw [RT_v3d.out.cell 12]; rfl
  have fr11_v3d := RT_v3d.out.fr 12
  repeat still_step
  refine wpStill_nil ?_
  go_upto_region 32 with (fail)
  refine name_w (fun W => Rw W w3.heap.size (recC (⟨11, 0, 0, 0, 0, 0, false, (n0 : Int), (n1 : Int), (n2 : Int), (n3 : Int), (n4 : Int), (n5 : Int), false, false, 0, 0, 0, 0⟩ : Rc)) 27 ∧ Below w3.heap.size w3 W) ⟨(heap_setCell_same _ _ 12 _ 27 (.int .i64 (n5 : Int)) ((heap_setCell_same _ _ 11 _ 27 (.int .i64 (n4 : Int)) (RT_v3d.out)))), (below_setCell ((below_setCell (BT_v3d.out) (Nat.le_refl _) _)) (Nat.le_refl _) _)⟩ ?_
  clear x4_v3d x5_v3d c10_v3d c11_v3d fr10_v3d fr11_v3d
  rintro v4 ⟨hR, hb⟩
  have RT_v4 := Lib.hid hR
  have BT_v4 := Lib.hid hb
  clear hR hb
  go_wp2_with fail
  refine still_named 11 (by kernel_rfl) (by kernel_rfl) (fun W => Rw W w3.heap.size (recC (⟨11, 0, 0, 0, 0, 0, false, (n0 : Int), (n1 : Int), (n2 : Int), (n3 : Int), (n4 : Int), (n5 : Int), false, false, 0, 0, 0, 0⟩ : Rc)) 27 ∧ Below w3.heap.size w3 W) ⟨RT_v4.out, below_drew BT_v4.out⟩ ?_
  rintro v4d ⟨hR, hb⟩
  have RT_v4d := Lib.hid hR
  have BT_v4d := Lib.hid hb
  clear hR hb
  simp only [List.take_succ_cons, List.take_zero, List.drop_succ_cons, List.drop_zero]
  have x6_v4d := (BT_v4d.out.cell (p := ⟨b, off + 7, none⟩) hb3).trans x6
  have x7_v4d := (BT_v4d.out.cell (p := ⟨b, off + 8, none⟩) hb3).trans x7
  have c12_v4d : v4d.cell? ⟨w3.heap.size, 13, none⟩ = some (.bool false) := by rw [RT_v4d.out.cell 13]; rfl
  have fr12_v4d := RT_v4d.out.fr 13
  have c13_v4d : v4d.cell? ⟨w3.heap.size, 14, none⟩ = some (.bool false) := by rw [RT_v4d.out.cell 14]; rfl
  have fr13_v4d := RT_v4d.out.fr 14
  repeat still_step
  refine wpStill_nil ?_
  go_upto_region 33 with (fail)
  refine name_w (fun W => Rw W w3.heap.size (recC (⟨11, 0, 0, 0, 0, 0, false, (n0 : Int), (n1 : Int), (n2 : Int), (n3 : Int), (n4 : Int), (n5 : Int), q6, q7, 0, 0, 0, 0⟩ : Rc)) 27 ∧ Below w3.heap.size w3 W) ⟨(heap_setCell_same _ _ 14 _ 27 (.bool q7) ((heap_setCell_same _ _ 13 _ 27 (.bool q6) (RT_v4d.out)))), (below_setCell ((below_setCell (BT_v4d.out) (Nat.le_refl _) _)) (Nat.le_refl _) _)⟩ ?_
  clear x6_v4d x7_v4d c12_v4d c13_v4d fr12_v4d fr13_v4d
  rintro v5 ⟨hR, hb⟩
  have RT_v5 := Lib.hid hR
  have BT_v5 := Lib.hid hb
  clear hR hb
  have x8_v5 := (BT_v5.out.cell (p := ⟨b, off + 9, none⟩) hb3).trans x8
  have c14_v5 : v5.cell? ⟨w3.heap.size, 15, none⟩ = some (.int .i64 0) := by rw [RT_v5.out.cell 15]; rfl
  have fr14_v5 := RT_v5.out.fr 15
  go_upto_region 34 with (fail)
  refine name_w (fun W => Rw W w3.heap.size (recC (⟨11, 0, 0, 0, 0, 0, false, (n0 : Int), (n1 : Int), (n2 : Int), (n3 : Int), (n4 : Int), (n5 : Int), q6, q7, (n8 : Int), 0, 0, 0⟩ : Rc)) 27 ∧ Below w3.heap.size w3 W) ⟨(heap_setCell_same _ _ 15 _ 27 (.int .i64 (n8 : Int)) (RT_v5.out)), (below_setCell (BT_v5.out) (Nat.le_refl _) _)⟩ ?_
  clear x8_v5 c14_v5 fr14_v5
  rintro v6 ⟨hR, hb⟩
  have RT_v6 := Lib.hid hR
  have BT_v6 := Lib.hid hb
  clear hR hb
  have x9_v6 := (BT_v6.out.cell (p := ⟨b, off + 10, none⟩) hb3).trans x9
  have c15_v6 : v6.cell? ⟨w3.heap.size, 16, none⟩ = some (.int .i64 0) := by rw [RT_v6.out.cell 16]; rfl
  have fr15_v6 := RT_v6.out.fr 16
  go_upto_region 35 with (fail)
  refine name_w (fun W => Rw W w3.heap.size (recC (⟨11, 0, 0, 0, 0, 0, false, (n0 : Int), (n1 : Int), (n2 : Int), (n3 : Int), (n4 : Int), (n5 : Int), q6, q7, (n8 : Int), (n9 : Int), 0, 0⟩ : Rc)) 27 ∧ Below w3.heap.size w3 W) ⟨(heap_setCell_same _ _ 16 _ 27 (.int .i64 (n9 : Int)) (RT_v6.out)), (below_setCell (BT_v6.out) (Nat.le_refl _) _)⟩ ?_
  clear x9_v6 c15_v6 fr15_v6
  rintro v7 ⟨hR, hb⟩
  have RT_v7 := Lib.hid hR
  have BT_v7 := Lib.hid hb
  clear hR hb
  have x10_v7 := (BT_v7.out.cell (p := ⟨b, off + 11, none⟩) hb3).trans x10
  have c16_v7 : v7.cell? ⟨w3.heap.size, 17, none⟩ = some (.int .i64 0) := by rw [RT_v7.out.cell 17]; rfl
  have fr16_v7 := RT_v7.out.fr 17
  go_upto_region 36 with (fail)
  refine name_w (fun W => Rw W w3.heap.size (recC (⟨11, 0, 0, 0, 0, 0, false, (n0 : Int), (n1 : Int), (n2 : Int), (n3 : Int), (n4 : Int), (n5 : Int), q6, q7, (n8 : Int), (n9 : Int), (n10 : Int), 0⟩ : Rc)) 27 ∧ Below w3.heap.size w3 W) ⟨(heap_setCell_same _ _ 17 _ 27 (.int .i64 (n10 : Int)) (RT_v7.out)), (below_setCell (BT_v7.out) (Nat.le_refl _) _)⟩ ?_
  clear x10_v7 c16_v7 fr16_v7
  rintro v8 ⟨hR, hb⟩
  have RT_v8 := Lib.hid hR
  have BT_v8 := Lib.hid hb
  clear hR hb
  have x11_v8 := (BT_v8.out.cell (p := ⟨b, off + 12, none⟩) hb3).trans x11
  have c17_v8 : v8.cell? ⟨w3.heap.size, 18, none⟩ = some (.int .i64 0) := by rw [RT_v8.out.cell 18]; rfl
  have fr17_v8 := RT_v8.out.fr 18
  go_upto_region 37 with (fail)
  refine name_w (fun W => Rw W w3.heap.size (recC (⟨11, 0, 0, 0, 0, 0, false, (n0 : Int), (n1 : Int), (n2 : Int), (n3 : Int), (n4 : Int), (n5 : Int), q6, q7, (n8 : Int), (n9 : Int), (n10 : Int), (n11 : Int)⟩ : Rc)) 27 ∧ Below w3.heap.size w3 W) ⟨(heap_setCell_same _ _ 18 _ 27 (.int .i64 (n11 : Int)) (RT_v8.out)), (below_setCell (BT_v8.out) (Nat.le_refl _) _)⟩ ?_
  clear x11_v8 c17_v8 fr17_v8
  rintro v9 ⟨hR, hb⟩
  have RT_v9 := Lib.hid hR
  have BT_v9 := Lib.hid hb
  clear hR hb
  obtain ⟨rs, hrs⟩ : ∃ rs, rs = recC (⟨11, 0, 0, 0, 0, 0, false, (n0 : Int), (n1 : Int), (n2 : Int), (n3 : Int), (n4 : Int), (n5 : Int), q6, q7, (n8 : Int), (n9 : Int), (n10 : Int), (n11 : Int)⟩ : Rc) := ⟨_, rfl⟩
  have HRZ : Hid (rs.size = 19) := Lib.hid (by rw [hrs]; rfl)
  have HR1 : Hid (rs.all (·.oneCell') = true) := Lib.hid (by rw [hrs]; exact recC_one _)
  have HRV := Lib.hid hrs
  have RF : Hid (Rw v9 w3.heap.size rs 27) := Lib.hid (by rw [hrs]; exact RT_v9.out)
  have RAF := Lib.hid (RA_w3.out.under BT_v9.out RA_w3.out.lt)
  have BF := Lib.hid (below_setRow (HB_w3.out.trans (BT_v9.out.mono HB_w3.out.size)) (Nat.le_refl _) rs)
  have ZF := Lib.hid (RAF.out.set rs)
  clear hrs
  go_wp2_with (first | (refine wpList_load_row rfl 27 (.tmp 10) rfl w3.heap.size rfl 27 rs (0, 0) _ RF.out Tryd.underlying27 rfl (by rw [HRZ.out]; exact i19) ?_) | (refine wpList_plain rfl fun _ hK => wp_store_row 27 (.tmp 2) (.tmp 156) rfl w.heap.size rs rfl rfl 27 _ RAF.out (by rw [HRZ.out]; exact i19) (by rw [HRZ.out, HZZ.out]) HR1.out (hK _ _ ?_); clear hK))
  (try simp only [Exit.inBlock, Exit.then])
  refine bodyPost_ret (results_cell_tmp rfl _ _ w.heap.size 27 rs (0, 0) _ rfl ZF.out Tryd.underlying27 rfl (by rw [HRZ.out]; exact i19)) rfl ?_
  exact ⟨by rw [HX.out, HRV.out]; rfl, BF.out⟩
end Go.Proofs.YthombepmlepgfaaDoor
