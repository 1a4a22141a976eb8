/-
  What the document's own Get answers, of the Kinds 1 to 5.
-/
import Derived.Test.YthombepmlepgfaaDoorMwit
import Derived.Test.YthombepmlepgfaaDoorAwak
import Derived.Test.YthombepmlepgfaaDoorRefGet
import Derived.Test.YthombepmlepgfaaDoorSize
namespace Go.Proofs.YthombepmlepgfaaDoor
open Go.RowKit

set_option maxRecDepth 100000 in
set_option maxHeartbeats 8000000 in
theorem mget9_1 (s : ByteArray) (w : World) (hs : s.size ≤ 20000) (n0 n1 n2 : Nat) (hG : gets [] s.data.toList = (0, 1 :: [n0, n1, n2])) : Calls Tryd.prog 13 #[.string s] w (GetR (rget s.data.toList) w) := by
  have HX : Hid (rget s.data.toList = if insideL [0, 1, 2] [(n0 : Int), (n1 : Int), (n2 : Int)] then ((⟨1, (n0 : Int), (n1 : Int), (n2 : Int), 0, 0, false, 0, 0, 0, 0, 0, 0, false, false, 0, 0, 0, 0⟩ : Rc), 0) else (zeroR, 1)) := Lib.hid (by
    have h1 := insideL_map (fill [0, 1, 2] [(n0 : Int), (n1 : Int), (n2 : Int)]) [0, 1, 2]
    rw [show [0, 1, 2].map (at_ (fill [0, 1, 2] [(n0 : Int), (n1 : Int), (n2 : Int)])) = [(n0 : Int), (n1 : Int), (n2 : Int)] from rfl] at h1
    rw [h1]
    unfold rget
    rw [hG]
    rfl)
  have HC : Hid (∀ W, Calls Tryd.prog 14 #[.string s] W (GotL (0, 1 :: [n0, n1, n2]) W)) := Lib.hid (fun W => by rw [← hG]; exact mget_any s W hs)
  have HMO : Hid (∀ W, Calls Tryd.prog 20 #[.int .i64 1] W (GotM W 1)) := Lib.hid (fun W => most_any _ W)
  have HWI : Hid (∀ v W, Vals W v (ints [(n0 : Int), (n1 : Int), (n2 : Int)]) → Calls Tryd.prog 23 #[.int .i64 1, v] W fun e w' => e = .returned (.bool (insideL [0, 1, 2] [(n0 : Int), (n1 : Int), (n2 : Int)])) ∧ Below W.heap.size W w') := Lib.hid (fun v W hv => mwithin_any 1 [0, 1, 2] [(n0 : Int), (n1 : Int), (n2 : Int)] v W rfl rfl hv)
  clear hG
  obtain ⟨zs, hzs⟩ : ∃ zs, zs = zeroC := ⟨_, rfl⟩
  have HZZ : Hid (zs.size = 19) := Lib.hid (by rw [hzs]; rfl)
  have HZ1 : Hid (zs.all (·.oneCell') = true) := Lib.hid (by rw [hzs]; exact recC_one _)
  have HZV : Hid (zs = recC zeroR) := Lib.hid hzs
  clear hzs
  go_enter Tryd.func13, Tryd.ntmps13
  go_upto_region 2 with (refine wpList_plain rfl fun _ hK => wp_store_row 27 (.tmp 4) (.tmp 11) rfl (w.heap.size + 1) _ rfl rfl 27 _ (heap_alloc2_new w _ _) (by kernel_rfl) rfl (by simp [Value.oneCell']) (hK _ _ ?_); clear hK)
  refine name_w (fun W => Rw W w.heap.size zs 27 ∧ Rw W (w.heap.size + 1) zs 27 ∧ Below w.heap.size w W) ⟨?_, ?_, below_setRow (((Below.refl _ _).alloc (Nat.le_refl _) _).alloc (by simp) _) (by omega) _⟩ ?_
  · rw [HZV.out]; exact (setRow_block _ _ _ _ (by omega)).trans ((Rw.new w zeroC 27).alloc _)
  · rw [HZV.out]; exact Rw.set (heap_alloc2_new w (.cells zeroC 27) (.cells zeroC 27)) _
  rintro w0 ⟨hA, hB, hb⟩
  have RA_w0 := Lib.hid hA
  have RB_w0 := Lib.hid hB
  have HB_w0 := Lib.hid hb
  clear hA hB hb
  go_wp2_with fail
  refine (HC.out _).mono ?_
  rintro e w1 ⟨u, rfl, ho, hb⟩
  have HB_w1 := Lib.hid (HB_w0.out.trans (hb.mono HB_w0.out.size))
  have RA_w1 := Lib.hid (RA_w0.out.under hb RA_w0.out.lt)
  have RB_w1 := Lib.hid (RB_w0.out.under hb RB_w0.out.lt)
  have HU1 := Lib.hid (Vals.of_own ho)
  clear hb ho RA_w0 RB_w0 HB_w0
  obtain ⟨b, off, c, rfl, hcc, hbb, hxx⟩ := HU1.out.full (by simp [nums, ints])
  have hcc' : 4 ≤ c := hcc
  have k0 : w1.cell? ⟨b, off, none⟩ = some (.int .i64 1) := hxx 0 _ rfl
  have y0 : w1.cell? ⟨b, off + 1, none⟩ = some (.int .i64 (n0 : Int)) := hxx 1 _ rfl
  have y1 : w1.cell? ⟨b, off + 2, none⟩ = some (.int .i64 (n1 : Int)) := hxx 2 _ rfl
  have y2 : w1.cell? ⟨b, off + 3, none⟩ = some (.int .i64 (n2 : Int)) := hxx 3 _ rfl
  rw [show (nums (0, 1 :: [n0, n1, n2]).2).length = 4 from rfl]
  obtain ⟨m, rfl⟩ : ∃ m, c = m + 2 := ⟨c - 2, by omega⟩
  have HV1 : Hid (Vals w1 (.slice (some ⟨b, off + 1, none⟩) 3 (m + 1)) (ints [(n0 : Int), (n1 : Int), (n2 : Int)])) := Lib.hid (vals_tail (x := .int .i64 1) (xs := ints [(n0 : Int), (n1 : Int), (n2 : Int)]) (c := m + 2) hxx hcc' hbb)
  clear hcc hxx
  go_wp2_with fail
  refine (HMO.out _).mono ?_
  rintro e w2 ⟨v, rfl, hv, hb⟩
  rw [show kindF 1 = some [0, 1, 2] from rfl] at hv ⊢
  obtain ⟨A2, c2, rfl⟩ : ∃ A c, v = .slice A 3 c := by
    obtain ⟨A, c, h⟩ := hv.slice
    exact ⟨A, c, h⟩
  have HB_w2 := Lib.hid (HB_w1.out.trans (hb.mono HB_w1.out.size))
  have RA_w2 := Lib.hid (RA_w1.out.under hb RA_w1.out.lt)
  have RB_w2 := Lib.hid (RB_w1.out.under hb RB_w1.out.lt)
  have k2 : w2.cell? ⟨b, off, none⟩ = some (.int .i64 1) := (hb.cell (p := ⟨b, off, none⟩) hbb).trans k0
  have z0 : w2.cell? ⟨b, off + 1, none⟩ = some (.int .i64 (n0 : Int)) := (hb.cell (p := ⟨b, off + 1, none⟩) hbb).trans y0
  have z1 : w2.cell? ⟨b, off + 2, none⟩ = some (.int .i64 (n1 : Int)) := (hb.cell (p := ⟨b, off + 2, none⟩) hbb).trans y1
  have z2 : w2.cell? ⟨b, off + 3, none⟩ = some (.int .i64 (n2 : Int)) := (hb.cell (p := ⟨b, off + 3, none⟩) hbb).trans y2
  have HV2 := Lib.hid (HV1.out.under hb)
  have hb2 : b < w2.heap.size := Nat.lt_of_lt_of_le hbb hb.size
  clear hb hv k0 RA_w1 RB_w1 HB_w1 HU1 y0 y1 y2 HV1
  go_wp2_with fail
  refine (HWI.out _ _ HV2.out).mono ?_
  rintro e w3 ⟨rfl, hb⟩
  have HB_w3 := Lib.hid (HB_w2.out.trans (hb.mono HB_w2.out.size))
  have RA_w3 := Lib.hid (RA_w2.out.under hb RA_w2.out.lt)
  have RB_w3 := Lib.hid (RB_w2.out.under hb RB_w2.out.lt)
  have x0 : w3.cell? ⟨b, off + 1, none⟩ = some (.int .i64 (n0 : Int)) := (hb.cell (p := ⟨b, off + 1, none⟩) hb2).trans z0
  have x1 : w3.cell? ⟨b, off + 2, none⟩ = some (.int .i64 (n1 : Int)) := (hb.cell (p := ⟨b, off + 2, none⟩) hb2).trans z1
  have x2 : w3.cell? ⟨b, off + 3, none⟩ = some (.int .i64 (n2 : Int)) := (hb.cell (p := ⟨b, off + 3, none⟩) hb2).trans z2
  have hb3 : b < w3.heap.size := Nat.lt_of_lt_of_le hb2 hb.size
  clear hb k2 RA_w2 RB_w2 HB_w2 z0 z1 z2
  by_cases hin : insideL [0, 1, 2] [(n0 : Int), (n1 : Int), (n2 : Int)] = true
  case neg =>
    rw [show insideL [0, 1, 2] [(n0 : Int), (n1 : Int), (n2 : Int)] = false by simpa using hin]
    rw [if_neg hin] at HX
    clear hin
    have ZS := Lib.hid (RA_w3.out.set zs)
    have BS := Lib.hid (below_setRow HB_w3.out (Nat.le_refl _) zs)
    go_wp2_with (first | (refine wpList_load_row rfl 27 (.tmp 4) rfl (w.heap.size + 1) rfl 27 zs (0, 0) _ RB_w3.out Tryd.underlying27 rfl (by rw [HZZ.out]; exact i19) ?_) | (refine wpList_plain rfl fun _ hK => wp_store_row 27 (.tmp 2) (.tmp 51) rfl w.heap.size zs rfl rfl 27 _ RA_w3.out (by rw [HZZ.out]; exact i19) rfl HZ1.out (hK _ _ ?_); clear hK))
    (try simp only [Exit.inBlock, Exit.then])
    refine bodyPost_ret (results_cell_tmp rfl _ _ w.heap.size 27 zs (0, 0) _ rfl ZS.out Tryd.underlying27 rfl (by rw [HZZ.out]; exact i19)) rfl ?_
    exact ⟨by rw [HX.out, HZV.out]; rfl, BS.out⟩
  rw [hin]
  rw [if_pos hin] at HX
  clear hin
  go_upto_region 17 with (refine wpList_plain rfl fun _ hK => wp_store_row 27 (.tmp 10) (.tmp 53) rfl w3.heap.size _ rfl rfl 27 _ (Rw.new w3 _ 27) (by kernel_rfl) rfl (by simp [Value.oneCell']) (hK _ _ ?_); clear hK)
  refine name_w (fun W => Rw W w3.heap.size (recC (⟨1, 0, 0, 0, 0, 0, false, 0, 0, 0, 0, 0, 0, false, false, 0, 0, 0, 0⟩ : Rc)) 27 ∧ Below w3.heap.size w3 W) ⟨(Rw.new w3 zeroC 27).set _, below_setRow ((Below.refl _ _).alloc (Nat.le_refl _) _) (Nat.le_refl _) _⟩ ?_
  rintro v0 ⟨hR, hb⟩
  have RT_v0 := Lib.hid hR
  have BT_v0 := Lib.hid hb
  clear hR hb
  have x0_v0 := (BT_v0.out.cell (p := ⟨b, off + 1, none⟩) hb3).trans x0
  have c0_v0 : v0.cell? ⟨w3.heap.size, 1, none⟩ = some (.int .i64 0) := by rw [RT_v0.out.cell 1]; rfl
  have fr0_v0 := RT_v0.out.fr 1
  go_upto_region 19 with (fail)
  refine name_w (fun W => Rw W w3.heap.size (recC (⟨1, (n0 : Int), 0, 0, 0, 0, false, 0, 0, 0, 0, 0, 0, false, false, 0, 0, 0, 0⟩ : Rc)) 27 ∧ Below w3.heap.size w3 W) ⟨(heap_setCell_same _ _ 1 _ 27 (.int .i64 (n0 : Int)) (RT_v0.out)), (below_setCell (BT_v0.out) (Nat.le_refl _) _)⟩ ?_
  clear x0_v0 c0_v0 fr0_v0
  rintro v1 ⟨hR, hb⟩
  have RT_v1 := Lib.hid hR
  have BT_v1 := Lib.hid hb
  clear hR hb
  have x1_v1 := (BT_v1.out.cell (p := ⟨b, off + 2, none⟩) hb3).trans x1
  have c1_v1 : v1.cell? ⟨w3.heap.size, 2, none⟩ = some (.int .i64 0) := by rw [RT_v1.out.cell 2]; rfl
  have fr1_v1 := RT_v1.out.fr 2
  go_upto_region 20 with (fail)
  refine name_w (fun W => Rw W w3.heap.size (recC (⟨1, (n0 : Int), (n1 : Int), 0, 0, 0, false, 0, 0, 0, 0, 0, 0, false, false, 0, 0, 0, 0⟩ : Rc)) 27 ∧ Below w3.heap.size w3 W) ⟨(heap_setCell_same _ _ 2 _ 27 (.int .i64 (n1 : Int)) (RT_v1.out)), (below_setCell (BT_v1.out) (Nat.le_refl _) _)⟩ ?_
  clear x1_v1 c1_v1 fr1_v1
  rintro v2 ⟨hR, hb⟩
  have RT_v2 := Lib.hid hR
  have BT_v2 := Lib.hid hb
  clear hR hb
  have x2_v2 := (BT_v2.out.cell (p := ⟨b, off + 3, none⟩) hb3).trans x2
  have c2_v2 : v2.cell? ⟨w3.heap.size, 3, none⟩ = some (.int .i64 0) := by rw [RT_v2.out.cell 3]; rfl
  have fr2_v2 := RT_v2.out.fr 3
  go_upto_region 21 with (fail)
  refine name_w (fun W => Rw W w3.heap.size (recC (⟨1, (n0 : Int), (n1 : Int), (n2 : Int), 0, 0, false, 0, 0, 0, 0, 0, 0, false, false, 0, 0, 0, 0⟩ : Rc)) 27 ∧ Below w3.heap.size w3 W) ⟨(heap_setCell_same _ _ 3 _ 27 (.int .i64 (n2 : Int)) (RT_v2.out)), (below_setCell (BT_v2.out) (Nat.le_refl _) _)⟩ ?_
  clear x2_v2 c2_v2 fr2_v2
  rintro v3 ⟨hR, hb⟩
  have RT_v3 := Lib.hid hR
  have BT_v3 := Lib.hid hb
  clear hR hb
  obtain ⟨rs, hrs⟩ : ∃ rs, rs = recC (⟨1, (n0 : Int), (n1 : Int), (n2 : Int), 0, 0, false, 0, 0, 0, 0, 0, 0, false, false, 0, 0, 0, 0⟩ : Rc) := ⟨_, rfl⟩
  have HRZ : Hid (rs.size = 19) := Lib.hid (by rw [hrs]; rfl)
  have HR1 : Hid (rs.all (·.oneCell') = true) := Lib.hid (by rw [hrs]; exact recC_one _)
  have HRV := Lib.hid hrs
  have RF : Hid (Rw v3 w3.heap.size rs 27) := Lib.hid (by rw [hrs]; exact RT_v3.out)
  have RAF := Lib.hid (RA_w3.out.under BT_v3.out RA_w3.out.lt)
  have BF := Lib.hid (below_setRow (HB_w3.out.trans (BT_v3.out.mono HB_w3.out.size)) (Nat.le_refl _) rs)
  have ZF := Lib.hid (RAF.out.set rs)
  clear hrs
  go_wp2_with (first | (refine wpList_load_row rfl 27 (.tmp 10) rfl w3.heap.size rfl 27 rs (0, 0) _ RF.out Tryd.underlying27 rfl (by rw [HRZ.out]; exact i19) ?_) | (refine wpList_plain rfl fun _ hK => wp_store_row 27 (.tmp 2) (.tmp 156) rfl w.heap.size rs rfl rfl 27 _ RAF.out (by rw [HRZ.out]; exact i19) (by rw [HRZ.out, HZZ.out]) HR1.out (hK _ _ ?_); clear hK))
  (try simp only [Exit.inBlock, Exit.then])
  refine bodyPost_ret (results_cell_tmp rfl _ _ w.heap.size 27 rs (0, 0) _ rfl ZF.out Tryd.underlying27 rfl (by rw [HRZ.out]; exact i19)) rfl ?_
  exact ⟨by rw [HX.out, HRV.out]; rfl, BF.out⟩
set_option maxRecDepth 100000 in
set_option maxHeartbeats 8000000 in
theorem mget9_2 (s : ByteArray) (w : World) (hs : s.size ≤ 20000) (hG : gets [] s.data.toList = (0, 2 :: [])) : Calls Tryd.prog 13 #[.string s] w (GetR (rget s.data.toList) w) := by
  have HX : Hid (rget s.data.toList = if insideL [] [] then ((⟨2, 0, 0, 0, 0, 0, false, 0, 0, 0, 0, 0, 0, false, false, 0, 0, 0, 0⟩ : Rc), 0) else (zeroR, 1)) := Lib.hid (by
    have h1 := insideL_map (fill [] []) []
    rw [show [].map (at_ (fill [] [])) = [] from rfl] at h1
    rw [h1]
    unfold rget
    rw [hG]
    rfl)
  have HC : Hid (∀ W, Calls Tryd.prog 14 #[.string s] W (GotL (0, 2 :: []) W)) := Lib.hid (fun W => by rw [← hG]; exact mget_any s W hs)
  have HMO : Hid (∀ W, Calls Tryd.prog 20 #[.int .i64 2] W (GotM W 2)) := Lib.hid (fun W => most_any _ W)
  have HWI : Hid (∀ v W, Vals W v (ints []) → Calls Tryd.prog 23 #[.int .i64 2, v] W fun e w' => e = .returned (.bool (insideL [] [])) ∧ Below W.heap.size W w') := Lib.hid (fun v W hv => mwithin_any 2 [] [] v W rfl rfl hv)
  clear hG
  obtain ⟨zs, hzs⟩ : ∃ zs, zs = zeroC := ⟨_, rfl⟩
  have HZZ : Hid (zs.size = 19) := Lib.hid (by rw [hzs]; rfl)
  have HZ1 : Hid (zs.all (·.oneCell') = true) := Lib.hid (by rw [hzs]; exact recC_one _)
  have HZV : Hid (zs = recC zeroR) := Lib.hid hzs
  clear hzs
  go_enter Tryd.func13, Tryd.ntmps13
  go_upto_region 2 with (refine wpList_plain rfl fun _ hK => wp_store_row 27 (.tmp 4) (.tmp 11) rfl (w.heap.size + 1) _ rfl rfl 27 _ (heap_alloc2_new w _ _) (by kernel_rfl) rfl (by simp [Value.oneCell']) (hK _ _ ?_); clear hK)
  refine name_w (fun W => Rw W w.heap.size zs 27 ∧ Rw W (w.heap.size + 1) zs 27 ∧ Below w.heap.size w W) ⟨?_, ?_, below_setRow (((Below.refl _ _).alloc (Nat.le_refl _) _).alloc (by simp) _) (by omega) _⟩ ?_
  · rw [HZV.out]; exact (setRow_block _ _ _ _ (by omega)).trans ((Rw.new w zeroC 27).alloc _)
  · rw [HZV.out]; exact Rw.set (heap_alloc2_new w (.cells zeroC 27) (.cells zeroC 27)) _
  rintro w0 ⟨hA, hB, hb⟩
  have RA_w0 := Lib.hid hA
  have RB_w0 := Lib.hid hB
  have HB_w0 := Lib.hid hb
  clear hA hB hb
  go_wp2_with fail
  refine (HC.out _).mono ?_
  rintro e w1 ⟨u, rfl, ho, hb⟩
  have HB_w1 := Lib.hid (HB_w0.out.trans (hb.mono HB_w0.out.size))
  have RA_w1 := Lib.hid (RA_w0.out.under hb RA_w0.out.lt)
  have RB_w1 := Lib.hid (RB_w0.out.under hb RB_w0.out.lt)
  have HU1 := Lib.hid (Vals.of_own ho)
  clear hb ho RA_w0 RB_w0 HB_w0
  obtain ⟨b, off, c, rfl, hcc, hbb, hxx⟩ := HU1.out.full (by simp [nums, ints])
  have hcc' : 1 ≤ c := hcc
  have k0 : w1.cell? ⟨b, off, none⟩ = some (.int .i64 2) := hxx 0 _ rfl
  rw [show (nums (0, 2 :: []).2).length = 1 from rfl]
  obtain ⟨m, rfl⟩ : ∃ m, c = m + 1 := ⟨c - 1, by omega⟩
  clear hcc hxx
  go_wp2_with fail
  refine (HMO.out _).mono ?_
  rintro e w2 ⟨v, rfl, hv, hb⟩
  rw [show kindF 2 = some [] from rfl] at hv ⊢
  obtain ⟨A2, c2, rfl⟩ : ∃ A c, v = .slice A 0 c := by
    obtain ⟨A, c, h⟩ := hv.slice
    exact ⟨A, c, h⟩
  have HB_w2 := Lib.hid (HB_w1.out.trans (hb.mono HB_w1.out.size))
  have RA_w2 := Lib.hid (RA_w1.out.under hb RA_w1.out.lt)
  have RB_w2 := Lib.hid (RB_w1.out.under hb RB_w1.out.lt)
  have k2 : w2.cell? ⟨b, off, none⟩ = some (.int .i64 2) := (hb.cell (p := ⟨b, off, none⟩) hbb).trans k0
  have hb2 : b < w2.heap.size := Nat.lt_of_lt_of_le hbb hb.size
  clear hb hv k0 RA_w1 RB_w1 HB_w1 HU1  
  by_cases hm : m = 0
  · subst hm
    have HVE : Hid (∀ a W, Vals W (.slice (some a) 0 0) (ints [])) := Lib.hid (fun a W => .inr ⟨a, 0, rfl, Nat.le_refl _, fun h => by simp [ints] at h, fun k u hu => by simp [ints] at hu⟩)
    go_wp2_with fail
    refine (HWI.out _ _ (HVE.out _ _)).mono ?_
    rintro e w3 ⟨rfl, hb⟩
    have HB_w3 := Lib.hid (HB_w2.out.trans (hb.mono HB_w2.out.size))
    have RA_w3 := Lib.hid (RA_w2.out.under hb RA_w2.out.lt)
    have RB_w3 := Lib.hid (RB_w2.out.under hb RB_w2.out.lt)
    have hb3 : b < w3.heap.size := Nat.lt_of_lt_of_le hb2 hb.size
    clear hb k2 RA_w2 RB_w2 HB_w2 
    rw [show insideL [] [] = true from rfl]
    rw [if_pos (show insideL [] [] = true from rfl)] at HX
    go_upto_region 17 with (refine wpList_plain rfl fun _ hK => wp_store_row 27 (.tmp 10) (.tmp 53) rfl w3.heap.size _ rfl rfl 27 _ (Rw.new w3 _ 27) (by kernel_rfl) rfl (by simp [Value.oneCell']) (hK _ _ ?_); clear hK)
    refine name_w (fun W => Rw W w3.heap.size (recC (⟨2, 0, 0, 0, 0, 0, false, 0, 0, 0, 0, 0, 0, false, false, 0, 0, 0, 0⟩ : Rc)) 27 ∧ Below w3.heap.size w3 W) ⟨(Rw.new w3 zeroC 27).set _, below_setRow ((Below.refl _ _).alloc (Nat.le_refl _) _) (Nat.le_refl _) _⟩ ?_
    rintro v0 ⟨hR, hb⟩
    have RT_v0 := Lib.hid hR
    have BT_v0 := Lib.hid hb
    clear hR hb
    obtain ⟨rs, hrs⟩ : ∃ rs, rs = recC (⟨2, 0, 0, 0, 0, 0, false, 0, 0, 0, 0, 0, 0, false, false, 0, 0, 0, 0⟩ : Rc) := ⟨_, rfl⟩
    have HRZ : Hid (rs.size = 19) := Lib.hid (by rw [hrs]; rfl)
    have HR1 : Hid (rs.all (·.oneCell') = true) := Lib.hid (by rw [hrs]; exact recC_one _)
    have HRV := Lib.hid hrs
    have RF : Hid (Rw v0 w3.heap.size rs 27) := Lib.hid (by rw [hrs]; exact RT_v0.out)
    have RAF := Lib.hid (RA_w3.out.under BT_v0.out RA_w3.out.lt)
    have BF := Lib.hid (below_setRow (HB_w3.out.trans (BT_v0.out.mono HB_w3.out.size)) (Nat.le_refl _) rs)
    have ZF := Lib.hid (RAF.out.set rs)
    clear hrs
    go_wp2_with (first | (refine wpList_load_row rfl 27 (.tmp 10) rfl w3.heap.size rfl 27 rs (0, 0) _ RF.out Tryd.underlying27 rfl (by rw [HRZ.out]; exact i19) ?_) | (refine wpList_plain rfl fun _ hK => wp_store_row 27 (.tmp 2) (.tmp 156) rfl w.heap.size rs rfl rfl 27 _ RAF.out (by rw [HRZ.out]; exact i19) (by rw [HRZ.out, HZZ.out]) HR1.out (hK _ _ ?_); clear hK))
    (try simp only [Exit.inBlock, Exit.then])
    refine bodyPost_ret (results_cell_tmp rfl _ _ w.heap.size 27 rs (0, 0) _ rfl ZF.out Tryd.underlying27 rfl (by rw [HRZ.out]; exact i19)) rfl ?_
    exact ⟨by rw [HX.out, HRV.out]; rfl, BF.out⟩

  · have HVE : Hid (∀ a W, Vals W (.slice (some a) 0 m) (ints [])) := Lib.hid (fun a W => .inr ⟨a, m, rfl, Nat.zero_le _, fun h => by simp [ints] at h, fun k u hu => by simp [ints] at hu⟩)
    go_wp2_with fail
    refine (HWI.out _ _ (HVE.out _ _)).mono ?_
    rintro e w3 ⟨rfl, hb⟩
    have HB_w3 := Lib.hid (HB_w2.out.trans (hb.mono HB_w2.out.size))
    have RA_w3 := Lib.hid (RA_w2.out.under hb RA_w2.out.lt)
    have RB_w3 := Lib.hid (RB_w2.out.under hb RB_w2.out.lt)
    have hb3 : b < w3.heap.size := Nat.lt_of_lt_of_le hb2 hb.size
    clear hb k2 RA_w2 RB_w2 HB_w2 
    rw [show insideL [] [] = true from rfl]
    rw [if_pos (show insideL [] [] = true from rfl)] at HX
    go_upto_region 17 with (refine wpList_plain rfl fun _ hK => wp_store_row 27 (.tmp 10) (.tmp 53) rfl w3.heap.size _ rfl rfl 27 _ (Rw.new w3 _ 27) (by kernel_rfl) rfl (by simp [Value.oneCell']) (hK _ _ ?_); clear hK)
    refine name_w (fun W => Rw W w3.heap.size (recC (⟨2, 0, 0, 0, 0, 0, false, 0, 0, 0, 0, 0, 0, false, false, 0, 0, 0, 0⟩ : Rc)) 27 ∧ Below w3.heap.size w3 W) ⟨(Rw.new w3 zeroC 27).set _, below_setRow ((Below.refl _ _).alloc (Nat.le_refl _) _) (Nat.le_refl _) _⟩ ?_
    rintro v0 ⟨hR, hb⟩
    have RT_v0 := Lib.hid hR
    have BT_v0 := Lib.hid hb
    clear hR hb
    obtain ⟨rs, hrs⟩ : ∃ rs, rs = recC (⟨2, 0, 0, 0, 0, 0, false, 0, 0, 0, 0, 0, 0, false, false, 0, 0, 0, 0⟩ : Rc) := ⟨_, rfl⟩
    have HRZ : Hid (rs.size = 19) := Lib.hid (by rw [hrs]; rfl)
    have HR1 : Hid (rs.all (·.oneCell') = true) := Lib.hid (by rw [hrs]; exact recC_one _)
    have HRV := Lib.hid hrs
    have RF : Hid (Rw v0 w3.heap.size rs 27) := Lib.hid (by rw [hrs]; exact RT_v0.out)
    have RAF := Lib.hid (RA_w3.out.under BT_v0.out RA_w3.out.lt)
    have BF := Lib.hid (below_setRow (HB_w3.out.trans (BT_v0.out.mono HB_w3.out.size)) (Nat.le_refl _) rs)
    have ZF := Lib.hid (RAF.out.set rs)
    clear hrs
    go_wp2_with (first | (refine wpList_load_row rfl 27 (.tmp 10) rfl w3.heap.size rfl 27 rs (0, 0) _ RF.out Tryd.underlying27 rfl (by rw [HRZ.out]; exact i19) ?_) | (refine wpList_plain rfl fun _ hK => wp_store_row 27 (.tmp 2) (.tmp 156) rfl w.heap.size rs rfl rfl 27 _ RAF.out (by rw [HRZ.out]; exact i19) (by rw [HRZ.out, HZZ.out]) HR1.out (hK _ _ ?_); clear hK))
    (try simp only [Exit.inBlock, Exit.then])
    refine bodyPost_ret (results_cell_tmp rfl _ _ w.heap.size 27 rs (0, 0) _ rfl ZF.out Tryd.underlying27 rfl (by rw [HRZ.out]; exact i19)) rfl ?_
    exact ⟨by rw [HX.out, HRV.out]; rfl, BF.out⟩

set_option maxRecDepth 100000 in
set_option maxHeartbeats 8000000 in
theorem mget9_3 (s : ByteArray) (w : World) (hs : s.size ≤ 20000) (hG : gets [] s.data.toList = (0, 3 :: [])) : Calls Tryd.prog 13 #[.string s] w (GetR (rget s.data.toList) w) := by
  have HX : Hid (rget s.data.toList = if insideL [] [] then ((⟨3, 0, 0, 0, 0, 0, false, 0, 0, 0, 0, 0, 0, false, false, 0, 0, 0, 0⟩ : Rc), 0) else (zeroR, 1)) := Lib.hid (by
    have h1 := insideL_map (fill [] []) []
    rw [show [].map (at_ (fill [] [])) = [] from rfl] at h1
    rw [h1]
    unfold rget
    rw [hG]
    rfl)
  have HC : Hid (∀ W, Calls Tryd.prog 14 #[.string s] W (GotL (0, 3 :: []) W)) := Lib.hid (fun W => by rw [← hG]; exact mget_any s W hs)
  have HMO : Hid (∀ W, Calls Tryd.prog 20 #[.int .i64 3] W (GotM W 3)) := Lib.hid (fun W => most_any _ W)
  have HWI : Hid (∀ v W, Vals W v (ints []) → Calls Tryd.prog 23 #[.int .i64 3, v] W fun e w' => e = .returned (.bool (insideL [] [])) ∧ Below W.heap.size W w') := Lib.hid (fun v W hv => mwithin_any 3 [] [] v W rfl rfl hv)
  clear hG
  obtain ⟨zs, hzs⟩ : ∃ zs, zs = zeroC := ⟨_, rfl⟩
  have HZZ : Hid (zs.size = 19) := Lib.hid (by rw [hzs]; rfl)
  have HZ1 : Hid (zs.all (·.oneCell') = true) := Lib.hid (by rw [hzs]; exact recC_one _)
  have HZV : Hid (zs = recC zeroR) := Lib.hid hzs
  clear hzs
  go_enter Tryd.func13, Tryd.ntmps13
  go_upto_region 2 with (refine wpList_plain rfl fun _ hK => wp_store_row 27 (.tmp 4) (.tmp 11) rfl (w.heap.size + 1) _ rfl rfl 27 _ (heap_alloc2_new w _ _) (by kernel_rfl) rfl (by simp [Value.oneCell']) (hK _ _ ?_); clear hK)
  refine name_w (fun W => Rw W w.heap.size zs 27 ∧ Rw W (w.heap.size + 1) zs 27 ∧ Below w.heap.size w W) ⟨?_, ?_, below_setRow (((Below.refl _ _).alloc (Nat.le_refl _) _).alloc (by simp) _) (by omega) _⟩ ?_
  · rw [HZV.out]; exact (setRow_block _ _ _ _ (by omega)).trans ((Rw.new w zeroC 27).alloc _)
  · rw [HZV.out]; exact Rw.set (heap_alloc2_new w (.cells zeroC 27) (.cells zeroC 27)) _
  rintro w0 ⟨hA, hB, hb⟩
  have RA_w0 := Lib.hid hA
  have RB_w0 := Lib.hid hB
  have HB_w0 := Lib.hid hb
  clear hA hB hb
  go_wp2_with fail
  refine (HC.out _).mono ?_
  rintro e w1 ⟨u, rfl, ho, hb⟩
  have HB_w1 := Lib.hid (HB_w0.out.trans (hb.mono HB_w0.out.size))
  have RA_w1 := Lib.hid (RA_w0.out.under hb RA_w0.out.lt)
  have RB_w1 := Lib.hid (RB_w0.out.under hb RB_w0.out.lt)
  have HU1 := Lib.hid (Vals.of_own ho)
  clear hb ho RA_w0 RB_w0 HB_w0
  obtain ⟨b, off, c, rfl, hcc, hbb, hxx⟩ := HU1.out.full (by simp [nums, ints])
  have hcc' : 1 ≤ c := hcc
  have k0 : w1.cell? ⟨b, off, none⟩ = some (.int .i64 3) := hxx 0 _ rfl
  rw [show (nums (0, 3 :: []).2).length = 1 from rfl]
  obtain ⟨m, rfl⟩ : ∃ m, c = m + 1 := ⟨c - 1, by omega⟩
  clear hcc hxx
  go_wp2_with fail
  refine (HMO.out _).mono ?_
  rintro e w2 ⟨v, rfl, hv, hb⟩
  rw [show kindF 3 = some [] from rfl] at hv ⊢
  obtain ⟨A2, c2, rfl⟩ : ∃ A c, v = .slice A 0 c := by
    obtain ⟨A, c, h⟩ := hv.slice
    exact ⟨A, c, h⟩
  have HB_w2 := Lib.hid (HB_w1.out.trans (hb.mono HB_w1.out.size))
  have RA_w2 := Lib.hid (RA_w1.out.under hb RA_w1.out.lt)
  have RB_w2 := Lib.hid (RB_w1.out.under hb RB_w1.out.lt)
  have k2 : w2.cell? ⟨b, off, none⟩ = some (.int .i64 3) := (hb.cell (p := ⟨b, off, none⟩) hbb).trans k0
  have hb2 : b < w2.heap.size := Nat.lt_of_lt_of_le hbb hb.size
  clear hb hv k0 RA_w1 RB_w1 HB_w1 HU1  
  by_cases hm : m = 0
  · subst hm
    have HVE : Hid (∀ a W, Vals W (.slice (some a) 0 0) (ints [])) := Lib.hid (fun a W => .inr ⟨a, 0, rfl, Nat.le_refl _, fun h => by simp [ints] at h, fun k u hu => by simp [ints] at hu⟩)
    go_wp2_with fail
    refine (HWI.out _ _ (HVE.out _ _)).mono ?_
    rintro e w3 ⟨rfl, hb⟩
    have HB_w3 := Lib.hid (HB_w2.out.trans (hb.mono HB_w2.out.size))
    have RA_w3 := Lib.hid (RA_w2.out.under hb RA_w2.out.lt)
    have RB_w3 := Lib.hid (RB_w2.out.under hb RB_w2.out.lt)
    have hb3 : b < w3.heap.size := Nat.lt_of_lt_of_le hb2 hb.size
    clear hb k2 RA_w2 RB_w2 HB_w2 
    rw [show insideL [] [] = true from rfl]
    rw [if_pos (show insideL [] [] = true from rfl)] at HX
    go_upto_region 17 with (refine wpList_plain rfl fun _ hK => wp_store_row 27 (.tmp 10) (.tmp 53) rfl w3.heap.size _ rfl rfl 27 _ (Rw.new w3 _ 27) (by kernel_rfl) rfl (by simp [Value.oneCell']) (hK _ _ ?_); clear hK)
    refine name_w (fun W => Rw W w3.heap.size (recC (⟨3, 0, 0, 0, 0, 0, false, 0, 0, 0, 0, 0, 0, false, false, 0, 0, 0, 0⟩ : Rc)) 27 ∧ Below w3.heap.size w3 W) ⟨(Rw.new w3 zeroC 27).set _, below_setRow ((Below.refl _ _).alloc (Nat.le_refl _) _) (Nat.le_refl _) _⟩ ?_
    rintro v0 ⟨hR, hb⟩
    have RT_v0 := Lib.hid hR
    have BT_v0 := Lib.hid hb
    clear hR hb
    obtain ⟨rs, hrs⟩ : ∃ rs, rs = recC (⟨3, 0, 0, 0, 0, 0, false, 0, 0, 0, 0, 0, 0, false, false, 0, 0, 0, 0⟩ : Rc) := ⟨_, rfl⟩
    have HRZ : Hid (rs.size = 19) := Lib.hid (by rw [hrs]; rfl)
    have HR1 : Hid (rs.all (·.oneCell') = true) := Lib.hid (by rw [hrs]; exact recC_one _)
    have HRV := Lib.hid hrs
    have RF : Hid (Rw v0 w3.heap.size rs 27) := Lib.hid (by rw [hrs]; exact RT_v0.out)
    have RAF := Lib.hid (RA_w3.out.under BT_v0.out RA_w3.out.lt)
    have BF := Lib.hid (below_setRow (HB_w3.out.trans (BT_v0.out.mono HB_w3.out.size)) (Nat.le_refl _) rs)
    have ZF := Lib.hid (RAF.out.set rs)
    clear hrs
    go_wp2_with (first | (refine wpList_load_row rfl 27 (.tmp 10) rfl w3.heap.size rfl 27 rs (0, 0) _ RF.out Tryd.underlying27 rfl (by rw [HRZ.out]; exact i19) ?_) | (refine wpList_plain rfl fun _ hK => wp_store_row 27 (.tmp 2) (.tmp 156) rfl w.heap.size rs rfl rfl 27 _ RAF.out (by rw [HRZ.out]; exact i19) (by rw [HRZ.out, HZZ.out]) HR1.out (hK _ _ ?_); clear hK))
    (try simp only [Exit.inBlock, Exit.then])
    refine bodyPost_ret (results_cell_tmp rfl _ _ w.heap.size 27 rs (0, 0) _ rfl ZF.out Tryd.underlying27 rfl (by rw [HRZ.out]; exact i19)) rfl ?_
    exact ⟨by rw [HX.out, HRV.out]; rfl, BF.out⟩

  · have HVE : Hid (∀ a W, Vals W (.slice (some a) 0 m) (ints [])) := Lib.hid (fun a W => .inr ⟨a, m, rfl, Nat.zero_le _, fun h => by simp [ints] at h, fun k u hu => by simp [ints] at hu⟩)
    go_wp2_with fail
    refine (HWI.out _ _ (HVE.out _ _)).mono ?_
    rintro e w3 ⟨rfl, hb⟩
    have HB_w3 := Lib.hid (HB_w2.out.trans (hb.mono HB_w2.out.size))
    have RA_w3 := Lib.hid (RA_w2.out.under hb RA_w2.out.lt)
    have RB_w3 := Lib.hid (RB_w2.out.under hb RB_w2.out.lt)
    have hb3 : b < w3.heap.size := Nat.lt_of_lt_of_le hb2 hb.size
    clear hb k2 RA_w2 RB_w2 HB_w2 
    rw [show insideL [] [] = true from rfl]
    rw [if_pos (show insideL [] [] = true from rfl)] at HX
    go_upto_region 17 with (refine wpList_plain rfl fun _ hK => wp_store_row 27 (.tmp 10) (.tmp 53) rfl w3.heap.size _ rfl rfl 27 _ (Rw.new w3 _ 27) (by kernel_rfl) rfl (by simp [Value.oneCell']) (hK _ _ ?_); clear hK)
    refine name_w (fun W => Rw W w3.heap.size (recC (⟨3, 0, 0, 0, 0, 0, false, 0, 0, 0, 0, 0, 0, false, false, 0, 0, 0, 0⟩ : Rc)) 27 ∧ Below w3.heap.size w3 W) ⟨(Rw.new w3 zeroC 27).set _, below_setRow ((Below.refl _ _).alloc (Nat.le_refl _) _) (Nat.le_refl _) _⟩ ?_
    rintro v0 ⟨hR, hb⟩
    have RT_v0 := Lib.hid hR
    have BT_v0 := Lib.hid hb
    clear hR hb
    obtain ⟨rs, hrs⟩ : ∃ rs, rs = recC (⟨3, 0, 0, 0, 0, 0, false, 0, 0, 0, 0, 0, 0, false, false, 0, 0, 0, 0⟩ : Rc) := ⟨_, rfl⟩
    have HRZ : Hid (rs.size = 19) := Lib.hid (by rw [hrs]; rfl)
    have HR1 : Hid (rs.all (·.oneCell') = true) := Lib.hid (by rw [hrs]; exact recC_one _)
    have HRV := Lib.hid hrs
    have RF : Hid (Rw v0 w3.heap.size rs 27) := Lib.hid (by rw [hrs]; exact RT_v0.out)
    have RAF := Lib.hid (RA_w3.out.under BT_v0.out RA_w3.out.lt)
    have BF := Lib.hid (below_setRow (HB_w3.out.trans (BT_v0.out.mono HB_w3.out.size)) (Nat.le_refl _) rs)
    have ZF := Lib.hid (RAF.out.set rs)
    clear hrs
    go_wp2_with (first | (refine wpList_load_row rfl 27 (.tmp 10) rfl w3.heap.size rfl 27 rs (0, 0) _ RF.out Tryd.underlying27 rfl (by rw [HRZ.out]; exact i19) ?_) | (refine wpList_plain rfl fun _ hK => wp_store_row 27 (.tmp 2) (.tmp 156) rfl w.heap.size rs rfl rfl 27 _ RAF.out (by rw [HRZ.out]; exact i19) (by rw [HRZ.out, HZZ.out]) HR1.out (hK _ _ ?_); clear hK))
    (try simp only [Exit.inBlock, Exit.then])
    refine bodyPost_ret (results_cell_tmp rfl _ _ w.heap.size 27 rs (0, 0) _ rfl ZF.out Tryd.underlying27 rfl (by rw [HRZ.out]; exact i19)) rfl ?_
    exact ⟨by rw [HX.out, HRV.out]; rfl, BF.out⟩

set_option maxRecDepth 100000 in
set_option maxHeartbeats 8000000 in
theorem mget9_4 (s : ByteArray) (w : World) (hs : s.size ≤ 20000) (n0 : Nat) (hG : gets [] s.data.toList = (0, 4 :: [n0])) : Calls Tryd.prog 13 #[.string s] w (GetR (rget s.data.toList) w) := by
  have HX : Hid (rget s.data.toList = if insideL [5] [(n0 : Int)] then ((⟨4, 0, 0, 0, 0, 0, ((n0 : Int) == 1), 0, 0, 0, 0, 0, 0, false, false, 0, 0, 0, 0⟩ : Rc), 0) else (zeroR, 1)) := Lib.hid (by
    have h1 := insideL_map (fill [5] [(n0 : Int)]) [5]
    rw [show [5].map (at_ (fill [5] [(n0 : Int)])) = [(n0 : Int)] from rfl] at h1
    rw [h1]
    unfold rget
    rw [hG]
    rfl)
  have HC : Hid (∀ W, Calls Tryd.prog 14 #[.string s] W (GotL (0, 4 :: [n0]) W)) := Lib.hid (fun W => by rw [← hG]; exact mget_any s W hs)
  have HMO : Hid (∀ W, Calls Tryd.prog 20 #[.int .i64 4] W (GotM W 4)) := Lib.hid (fun W => most_any _ W)
  have HWI : Hid (∀ v W, Vals W v (ints [(n0 : Int)]) → Calls Tryd.prog 23 #[.int .i64 4, v] W fun e w' => e = .returned (.bool (insideL [5] [(n0 : Int)])) ∧ Below W.heap.size W w') := Lib.hid (fun v W hv => mwithin_any 4 [5] [(n0 : Int)] v W rfl rfl hv)
  clear hG
  obtain ⟨zs, hzs⟩ : ∃ zs, zs = zeroC := ⟨_, rfl⟩
  have HZZ : Hid (zs.size = 19) := Lib.hid (by rw [hzs]; rfl)
  have HZ1 : Hid (zs.all (·.oneCell') = true) := Lib.hid (by rw [hzs]; exact recC_one _)
  have HZV : Hid (zs = recC zeroR) := Lib.hid hzs
  clear hzs
  go_enter Tryd.func13, Tryd.ntmps13
  go_upto_region 2 with (refine wpList_plain rfl fun _ hK => wp_store_row 27 (.tmp 4) (.tmp 11) rfl (w.heap.size + 1) _ rfl rfl 27 _ (heap_alloc2_new w _ _) (by kernel_rfl) rfl (by simp [Value.oneCell']) (hK _ _ ?_); clear hK)
  refine name_w (fun W => Rw W w.heap.size zs 27 ∧ Rw W (w.heap.size + 1) zs 27 ∧ Below w.heap.size w W) ⟨?_, ?_, below_setRow (((Below.refl _ _).alloc (Nat.le_refl _) _).alloc (by simp) _) (by omega) _⟩ ?_
  · rw [HZV.out]; exact (setRow_block _ _ _ _ (by omega)).trans ((Rw.new w zeroC 27).alloc _)
  · rw [HZV.out]; exact Rw.set (heap_alloc2_new w (.cells zeroC 27) (.cells zeroC 27)) _
  rintro w0 ⟨hA, hB, hb⟩
  have RA_w0 := Lib.hid hA
  have RB_w0 := Lib.hid hB
  have HB_w0 := Lib.hid hb
  clear hA hB hb
  go_wp2_with fail
  refine (HC.out _).mono ?_
  rintro e w1 ⟨u, rfl, ho, hb⟩
  have HB_w1 := Lib.hid (HB_w0.out.trans (hb.mono HB_w0.out.size))
  have RA_w1 := Lib.hid (RA_w0.out.under hb RA_w0.out.lt)
  have RB_w1 := Lib.hid (RB_w0.out.under hb RB_w0.out.lt)
  have HU1 := Lib.hid (Vals.of_own ho)
  clear hb ho RA_w0 RB_w0 HB_w0
  obtain ⟨b, off, c, rfl, hcc, hbb, hxx⟩ := HU1.out.full (by simp [nums, ints])
  have hcc' : 2 ≤ c := hcc
  have k0 : w1.cell? ⟨b, off, none⟩ = some (.int .i64 4) := hxx 0 _ rfl
  have y0 : w1.cell? ⟨b, off + 1, none⟩ = some (.int .i64 (n0 : Int)) := hxx 1 _ rfl
  rw [show (nums (0, 4 :: [n0]).2).length = 2 from rfl]
  obtain ⟨m, rfl⟩ : ∃ m, c = m + 2 := ⟨c - 2, by omega⟩
  have HV1 : Hid (Vals w1 (.slice (some ⟨b, off + 1, none⟩) 1 (m + 1)) (ints [(n0 : Int)])) := Lib.hid (vals_tail (x := .int .i64 4) (xs := ints [(n0 : Int)]) (c := m + 2) hxx hcc' hbb)
  clear hcc hxx
  go_wp2_with fail
  refine (HMO.out _).mono ?_
  rintro e w2 ⟨v, rfl, hv, hb⟩
  rw [show kindF 4 = some [5] from rfl] at hv ⊢
  obtain ⟨A2, c2, rfl⟩ : ∃ A c, v = .slice A 1 c := by
    obtain ⟨A, c, h⟩ := hv.slice
    exact ⟨A, c, h⟩
  have HB_w2 := Lib.hid (HB_w1.out.trans (hb.mono HB_w1.out.size))
  have RA_w2 := Lib.hid (RA_w1.out.under hb RA_w1.out.lt)
  have RB_w2 := Lib.hid (RB_w1.out.under hb RB_w1.out.lt)
  have k2 : w2.cell? ⟨b, off, none⟩ = some (.int .i64 4) := (hb.cell (p := ⟨b, off, none⟩) hbb).trans k0
  have z0 : w2.cell? ⟨b, off + 1, none⟩ = some (.int .i64 (n0 : Int)) := (hb.cell (p := ⟨b, off + 1, none⟩) hbb).trans y0
  have HV2 := Lib.hid (HV1.out.under hb)
  have hb2 : b < w2.heap.size := Nat.lt_of_lt_of_le hbb hb.size
  clear hb hv k0 RA_w1 RB_w1 HB_w1 HU1 y0 HV1
  go_wp2_with fail
  refine (HWI.out _ _ HV2.out).mono ?_
  rintro e w3 ⟨rfl, hb⟩
  have HB_w3 := Lib.hid (HB_w2.out.trans (hb.mono HB_w2.out.size))
  have RA_w3 := Lib.hid (RA_w2.out.under hb RA_w2.out.lt)
  have RB_w3 := Lib.hid (RB_w2.out.under hb RB_w2.out.lt)
  have x0 : w3.cell? ⟨b, off + 1, none⟩ = some (.int .i64 (n0 : Int)) := (hb.cell (p := ⟨b, off + 1, none⟩) hb2).trans z0
  have hb3 : b < w3.heap.size := Nat.lt_of_lt_of_le hb2 hb.size
  clear hb k2 RA_w2 RB_w2 HB_w2 z0
  by_cases hin : insideL [5] [(n0 : Int)] = true
  case neg =>
    rw [show insideL [5] [(n0 : Int)] = false by simpa using hin]
    rw [if_neg hin] at HX
    clear hin
    have ZS := Lib.hid (RA_w3.out.set zs)
    have BS := Lib.hid (below_setRow HB_w3.out (Nat.le_refl _) zs)
    go_wp2_with (first | (refine wpList_load_row rfl 27 (.tmp 4) rfl (w.heap.size + 1) rfl 27 zs (0, 0) _ RB_w3.out Tryd.underlying27 rfl (by rw [HZZ.out]; exact i19) ?_) | (refine wpList_plain rfl fun _ hK => wp_store_row 27 (.tmp 2) (.tmp 51) rfl w.heap.size zs rfl rfl 27 _ RA_w3.out (by rw [HZZ.out]; exact i19) rfl HZ1.out (hK _ _ ?_); clear hK))
    (try simp only [Exit.inBlock, Exit.then])
    refine bodyPost_ret (results_cell_tmp rfl _ _ w.heap.size 27 zs (0, 0) _ rfl ZS.out Tryd.underlying27 rfl (by rw [HZZ.out]; exact i19)) rfl ?_
    exact ⟨by rw [HX.out, HZV.out]; rfl, BS.out⟩
  rw [hin]
  rw [if_pos hin] at HX
  obtain ⟨q0, hq0⟩ : ∃ q : Bool, q = ((n0 : Int) == 1) := ⟨_, rfl⟩
  have g0 : decide (0 < (n0 : Int)) = q0 := by
    rw [hq0]
    simp [insideL, at_, los, his] at hin
    rw [Bool.eq_iff_iff]
    simp
    omega
  have g0' : decide (0 < n0) = q0 := by
    rw [← g0]; simp
  rw [← hq0] at HX
  clear hq0
  clear hin
  go_upto_region 17 with (refine wpList_plain rfl fun _ hK => wp_store_row 27 (.tmp 10) (.tmp 53) rfl w3.heap.size _ rfl rfl 27 _ (Rw.new w3 _ 27) (by kernel_rfl) rfl (by simp [Value.oneCell']) (hK _ _ ?_); clear hK)
  refine name_w (fun W => Rw W w3.heap.size (recC (⟨4, 0, 0, 0, 0, 0, false, 0, 0, 0, 0, 0, 0, false, false, 0, 0, 0, 0⟩ : Rc)) 27 ∧ Below w3.heap.size w3 W) ⟨(Rw.new w3 zeroC 27).set _, below_setRow ((Below.refl _ _).alloc (Nat.le_refl _) _) (Nat.le_refl _) _⟩ ?_
  rintro v0 ⟨hR, hb⟩
  have RT_v0 := Lib.hid hR
  have BT_v0 := Lib.hid hb
  clear hR hb
  have x0_v0 := (BT_v0.out.cell (p := ⟨b, off + 1, none⟩) hb3).trans x0
  have c5_v0 : v0.cell? ⟨w3.heap.size, 6, none⟩ = some (.bool false) := by rw [RT_v0.out.cell 6]; rfl
  have fr5_v0 := RT_v0.out.fr 6
  go_upto_region 23 with (fail)
  refine name_w (fun W => Rw W w3.heap.size (recC (⟨4, 0, 0, 0, 0, 0, q0, 0, 0, 0, 0, 0, 0, false, false, 0, 0, 0, 0⟩ : Rc)) 27 ∧ Below w3.heap.size w3 W) ⟨(heap_setCell_same _ _ 6 _ 27 (.bool q0) (RT_v0.out)), (below_setCell (BT_v0.out) (Nat.le_refl _) _)⟩ ?_
  clear x0_v0 c5_v0 fr5_v0
  rintro v1 ⟨hR, hb⟩
  have RT_v1 := Lib.hid hR
  have BT_v1 := Lib.hid hb
  clear hR hb
  obtain ⟨rs, hrs⟩ : ∃ rs, rs = recC (⟨4, 0, 0, 0, 0, 0, q0, 0, 0, 0, 0, 0, 0, false, false, 0, 0, 0, 0⟩ : Rc) := ⟨_, rfl⟩
  have HRZ : Hid (rs.size = 19) := Lib.hid (by rw [hrs]; rfl)
  have HR1 : Hid (rs.all (·.oneCell') = true) := Lib.hid (by rw [hrs]; exact recC_one _)
  have HRV := Lib.hid hrs
  have RF : Hid (Rw v1 w3.heap.size rs 27) := Lib.hid (by rw [hrs]; exact RT_v1.out)
  have RAF := Lib.hid (RA_w3.out.under BT_v1.out RA_w3.out.lt)
  have BF := Lib.hid (below_setRow (HB_w3.out.trans (BT_v1.out.mono HB_w3.out.size)) (Nat.le_refl _) rs)
  have ZF := Lib.hid (RAF.out.set rs)
  clear hrs
  go_wp2_with (first | (refine wpList_load_row rfl 27 (.tmp 10) rfl w3.heap.size rfl 27 rs (0, 0) _ RF.out Tryd.underlying27 rfl (by rw [HRZ.out]; exact i19) ?_) | (refine wpList_plain rfl fun _ hK => wp_store_row 27 (.tmp 2) (.tmp 156) rfl w.heap.size rs rfl rfl 27 _ RAF.out (by rw [HRZ.out]; exact i19) (by rw [HRZ.out, HZZ.out]) HR1.out (hK _ _ ?_); clear hK))
  (try simp only [Exit.inBlock, Exit.then])
  refine bodyPost_ret (results_cell_tmp rfl _ _ w.heap.size 27 rs (0, 0) _ rfl ZF.out Tryd.underlying27 rfl (by rw [HRZ.out]; exact i19)) rfl ?_
  exact ⟨by rw [HX.out, HRV.out]; rfl, BF.out⟩
set_option maxRecDepth 100000 in
set_option maxHeartbeats 8000000 in
theorem mget9_5 (s : ByteArray) (w : World) (hs : s.size ≤ 20000) (n0 : Nat) (hG : gets [] s.data.toList = (0, 5 :: [n0])) : Calls Tryd.prog 13 #[.string s] w (GetR (rget s.data.toList) w) := by
  have HX : Hid (rget s.data.toList = if insideL [3] [(n0 : Int)] then ((⟨5, 0, 0, 0, (n0 : Int), 0, false, 0, 0, 0, 0, 0, 0, false, false, 0, 0, 0, 0⟩ : Rc), 0) else (zeroR, 1)) := Lib.hid (by
    have h1 := insideL_map (fill [3] [(n0 : Int)]) [3]
    rw [show [3].map (at_ (fill [3] [(n0 : Int)])) = [(n0 : Int)] from rfl] at h1
    rw [h1]
    unfold rget
    rw [hG]
    rfl)
  have HC : Hid (∀ W, Calls Tryd.prog 14 #[.string s] W (GotL (0, 5 :: [n0]) W)) := Lib.hid (fun W => by rw [← hG]; exact mget_any s W hs)
  have HMO : Hid (∀ W, Calls Tryd.prog 20 #[.int .i64 5] W (GotM W 5)) := Lib.hid (fun W => most_any _ W)
  have HWI : Hid (∀ v W, Vals W v (ints [(n0 : Int)]) → Calls Tryd.prog 23 #[.int .i64 5, v] W fun e w' => e = .returned (.bool (insideL [3] [(n0 : Int)])) ∧ Below W.heap.size W w') := Lib.hid (fun v W hv => mwithin_any 5 [3] [(n0 : Int)] v W rfl rfl hv)
  clear hG
  obtain ⟨zs, hzs⟩ : ∃ zs, zs = zeroC := ⟨_, rfl⟩
  have HZZ : Hid (zs.size = 19) := Lib.hid (by rw [hzs]; rfl)
  have HZ1 : Hid (zs.all (·.oneCell') = true) := Lib.hid (by rw [hzs]; exact recC_one _)
  have HZV : Hid (zs = recC zeroR) := Lib.hid hzs
  clear hzs
  go_enter Tryd.func13, Tryd.ntmps13
  go_upto_region 2 with (refine wpList_plain rfl fun _ hK => wp_store_row 27 (.tmp 4) (.tmp 11) rfl (w.heap.size + 1) _ rfl rfl 27 _ (heap_alloc2_new w _ _) (by kernel_rfl) rfl (by simp [Value.oneCell']) (hK _ _ ?_); clear hK)
  refine name_w (fun W => Rw W w.heap.size zs 27 ∧ Rw W (w.heap.size + 1) zs 27 ∧ Below w.heap.size w W) ⟨?_, ?_, below_setRow (((Below.refl _ _).alloc (Nat.le_refl _) _).alloc (by simp) _) (by omega) _⟩ ?_
  · rw [HZV.out]; exact (setRow_block _ _ _ _ (by omega)).trans ((Rw.new w zeroC 27).alloc _)
  · rw [HZV.out]; exact Rw.set (heap_alloc2_new w (.cells zeroC 27) (.cells zeroC 27)) _
  rintro w0 ⟨hA, hB, hb⟩
  have RA_w0 := Lib.hid hA
  have RB_w0 := Lib.hid hB
  have HB_w0 := Lib.hid hb
  clear hA hB hb
  go_wp2_with fail
  refine (HC.out _).mono ?_
  rintro e w1 ⟨u, rfl, ho, hb⟩
  have HB_w1 := Lib.hid (HB_w0.out.trans (hb.mono HB_w0.out.size))
  have RA_w1 := Lib.hid (RA_w0.out.under hb RA_w0.out.lt)
  have RB_w1 := Lib.hid (RB_w0.out.under hb RB_w0.out.lt)
  have HU1 := Lib.hid (Vals.of_own ho)
  clear hb ho RA_w0 RB_w0 HB_w0
  obtain ⟨b, off, c, rfl, hcc, hbb, hxx⟩ := HU1.out.full (by simp [nums, ints])
  have hcc' : 2 ≤ c := hcc
  have k0 : w1.cell? ⟨b, off, none⟩ = some (.int .i64 5) := hxx 0 _ rfl
  have y0 : w1.cell? ⟨b, off + 1, none⟩ = some (.int .i64 (n0 : Int)) := hxx 1 _ rfl
  rw [show (nums (0, 5 :: [n0]).2).length = 2 from rfl]
  obtain ⟨m, rfl⟩ : ∃ m, c = m + 2 := ⟨c - 2, by omega⟩
  have HV1 : Hid (Vals w1 (.slice (some ⟨b, off + 1, none⟩) 1 (m + 1)) (ints [(n0 : Int)])) := Lib.hid (vals_tail (x := .int .i64 5) (xs := ints [(n0 : Int)]) (c := m + 2) hxx hcc' hbb)
  clear hcc hxx
  go_wp2_with fail
  refine (HMO.out _).mono ?_
  rintro e w2 ⟨v, rfl, hv, hb⟩
  rw [show kindF 5 = some [3] from rfl] at hv ⊢
  obtain ⟨A2, c2, rfl⟩ : ∃ A c, v = .slice A 1 c := by
    obtain ⟨A, c, h⟩ := hv.slice
    exact ⟨A, c, h⟩
  have HB_w2 := Lib.hid (HB_w1.out.trans (hb.mono HB_w1.out.size))
  have RA_w2 := Lib.hid (RA_w1.out.under hb RA_w1.out.lt)
  have RB_w2 := Lib.hid (RB_w1.out.under hb RB_w1.out.lt)
  have k2 : w2.cell? ⟨b, off, none⟩ = some (.int .i64 5) := (hb.cell (p := ⟨b, off, none⟩) hbb).trans k0
  have z0 : w2.cell? ⟨b, off + 1, none⟩ = some (.int .i64 (n0 : Int)) := (hb.cell (p := ⟨b, off + 1, none⟩) hbb).trans y0
  have HV2 := Lib.hid (HV1.out.under hb)
  have hb2 : b < w2.heap.size := Nat.lt_of_lt_of_le hbb hb.size
  clear hb hv k0 RA_w1 RB_w1 HB_w1 HU1 y0 HV1
  go_wp2_with fail
  refine (HWI.out _ _ HV2.out).mono ?_
  rintro e w3 ⟨rfl, hb⟩
  have HB_w3 := Lib.hid (HB_w2.out.trans (hb.mono HB_w2.out.size))
  have RA_w3 := Lib.hid (RA_w2.out.under hb RA_w2.out.lt)
  have RB_w3 := Lib.hid (RB_w2.out.under hb RB_w2.out.lt)
  have x0 : w3.cell? ⟨b, off + 1, none⟩ = some (.int .i64 (n0 : Int)) := (hb.cell (p := ⟨b, off + 1, none⟩) hb2).trans z0
  have hb3 : b < w3.heap.size := Nat.lt_of_lt_of_le hb2 hb.size
  clear hb k2 RA_w2 RB_w2 HB_w2 z0
  by_cases hin : insideL [3] [(n0 : Int)] = true
  case neg =>
    rw [show insideL [3] [(n0 : Int)] = false by simpa using hin]
    rw [if_neg hin] at HX
    clear hin
    have ZS := Lib.hid (RA_w3.out.set zs)
    have BS := Lib.hid (below_setRow HB_w3.out (Nat.le_refl _) zs)
    go_wp2_with (first | (refine wpList_load_row rfl 27 (.tmp 4) rfl (w.heap.size + 1) rfl 27 zs (0, 0) _ RB_w3.out Tryd.underlying27 rfl (by rw [HZZ.out]; exact i19) ?_) | (refine wpList_plain rfl fun _ hK => wp_store_row 27 (.tmp 2) (.tmp 51) rfl w.heap.size zs rfl rfl 27 _ RA_w3.out (by rw [HZZ.out]; exact i19) rfl HZ1.out (hK _ _ ?_); clear hK))
    (try simp only [Exit.inBlock, Exit.then])
    refine bodyPost_ret (results_cell_tmp rfl _ _ w.heap.size 27 zs (0, 0) _ rfl ZS.out Tryd.underlying27 rfl (by rw [HZZ.out]; exact i19)) rfl ?_
    exact ⟨by rw [HX.out, HZV.out]; rfl, BS.out⟩
  rw [hin]
  rw [if_pos hin] at HX
  clear hin
  go_upto_region 17 with (refine wpList_plain rfl fun _ hK => wp_store_row 27 (.tmp 10) (.tmp 53) rfl w3.heap.size _ rfl rfl 27 _ (Rw.new w3 _ 27) (by kernel_rfl) rfl (by simp [Value.oneCell']) (hK _ _ ?_); clear hK)
  refine name_w (fun W => Rw W w3.heap.size (recC (⟨5, 0, 0, 0, 0, 0, false, 0, 0, 0, 0, 0, 0, false, false, 0, 0, 0, 0⟩ : Rc)) 27 ∧ Below w3.heap.size w3 W) ⟨(Rw.new w3 zeroC 27).set _, below_setRow ((Below.refl _ _).alloc (Nat.le_refl _) _) (Nat.le_refl _) _⟩ ?_
  rintro v0 ⟨hR, hb⟩
  have RT_v0 := Lib.hid hR
  have BT_v0 := Lib.hid hb
  clear hR hb
  have x0_v0 := (BT_v0.out.cell (p := ⟨b, off + 1, none⟩) hb3).trans x0
  have c3_v0 : v0.cell? ⟨w3.heap.size, 4, none⟩ = some (.int .i64 0) := by rw [RT_v0.out.cell 4]; rfl
  have fr3_v0 := RT_v0.out.fr 4
  go_upto_region 25 with (fail)
  refine name_w (fun W => Rw W w3.heap.size (recC (⟨5, 0, 0, 0, (n0 : Int), 0, false, 0, 0, 0, 0, 0, 0, false, false, 0, 0, 0, 0⟩ : Rc)) 27 ∧ Below w3.heap.size w3 W) ⟨(heap_setCell_same _ _ 4 _ 27 (.int .i64 (n0 : Int)) (RT_v0.out)), (below_setCell (BT_v0.out) (Nat.le_refl _) _)⟩ ?_
  clear x0_v0 c3_v0 fr3_v0
  rintro v1 ⟨hR, hb⟩
  have RT_v1 := Lib.hid hR
  have BT_v1 := Lib.hid hb
  clear hR hb
  obtain ⟨rs, hrs⟩ : ∃ rs, rs = recC (⟨5, 0, 0, 0, (n0 : Int), 0, false, 0, 0, 0, 0, 0, 0, false, false, 0, 0, 0, 0⟩ : Rc) := ⟨_, rfl⟩
  have HRZ : Hid (rs.size = 19) := Lib.hid (by rw [hrs]; rfl)
  have HR1 : Hid (rs.all (·.oneCell') = true) := Lib.hid (by rw [hrs]; exact recC_one _)
  have HRV := Lib.hid hrs
  have RF : Hid (Rw v1 w3.heap.size rs 27) := Lib.hid (by rw [hrs]; exact RT_v1.out)
  have RAF := Lib.hid (RA_w3.out.under BT_v1.out RA_w3.out.lt)
  have BF := Lib.hid (below_setRow (HB_w3.out.trans (BT_v1.out.mono HB_w3.out.size)) (Nat.le_refl _) rs)
  have ZF := Lib.hid (RAF.out.set rs)
  clear hrs
  go_wp2_with (first | (refine wpList_load_row rfl 27 (.tmp 10) rfl w3.heap.size rfl 27 rs (0, 0) _ RF.out Tryd.underlying27 rfl (by rw [HRZ.out]; exact i19) ?_) | (refine wpList_plain rfl fun _ hK => wp_store_row 27 (.tmp 2) (.tmp 156) rfl w.heap.size rs rfl rfl 27 _ RAF.out (by rw [HRZ.out]; exact i19) (by rw [HRZ.out, HZZ.out]) HR1.out (hK _ _ ?_); clear hK))
  (try simp only [Exit.inBlock, Exit.then])
  refine bodyPost_ret (results_cell_tmp rfl _ _ w.heap.size 27 rs (0, 0) _ rfl ZF.out Tryd.underlying27 rfl (by rw [HRZ.out]; exact i19)) rfl ?_
  exact ⟨by rw [HX.out, HRV.out]; rfl, BF.out⟩
end Go.Proofs.YthombepmlepgfaaDoor
