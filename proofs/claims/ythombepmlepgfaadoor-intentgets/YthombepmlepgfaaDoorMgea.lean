/-
  What the document's own Get answers, where it answers an error.
-/
import Derived.Test.YthombepmlepgfaaDoorMwit
import Derived.Test.YthombepmlepgfaaDoorAwak
import Derived.Test.YthombepmlepgfaaDoorRefGet
import Derived.Test.YthombepmlepgfaaDoorSize
namespace Go.Proofs.YthombepmlepgfaaDoor
open Go.RowKit

set_option maxRecDepth 100000 in
set_option maxHeartbeats 4000000 in
theorem mget9_err (s : ByteArray) (w : World) (hs : s.size ≤ 20000) (h : (gets [] s.data.toList).1 ≠ 0) : Calls Tryd.prog 13 #[.string s] w (GetR (rget s.data.toList) w) := by
  have HX : Hid (rget s.data.toList = (zeroR, (gets [] s.data.toList).1)) := Lib.hid (by unfold rget rgot; rw [if_pos h])
  have HN := gets_no s.size s.data.toList [] (by simp) h
  have HC : Hid (∀ W, Calls Tryd.prog 14 #[.string s] W (GotL (gets [] s.data.toList) W)) := Lib.hid (fun W => mget_any s W hs)
  obtain ⟨G, hG⟩ : ∃ G, G = gets [] s.data.toList := ⟨_, rfl⟩
  rw [← hG] at HC HX HN h
  obtain ⟨E, ns⟩ := G
  simp only at HN h HX
  subst HN
  have hE : ((E : Int) != 0) = true := by simpa using h
  clear hG h
  obtain ⟨zs, hzs⟩ : ∃ zs, zs = zeroC := ⟨_, rfl⟩
  have HZZ : Hid (zs.size = 19) := Lib.hid (by rw [hzs]; rfl)
  have HZ1 : Hid (zs.all (·.oneCell') = true) := Lib.hid (by rw [hzs]; exact recC_one _)
  have HZV : Hid (zs = recC zeroR) := Lib.hid hzs
  clear hzs
  go_enter Tryd.func13, Tryd.ntmps13
  go_upto_region 2 with (refine wpList_plain rfl fun _ hK => wp_store_row 27 (.tmp 4) (.tmp 11) rfl (w.heap.size + 1) _ rfl rfl 27 _ (heap_alloc2_new w _ _) (by kernel_rfl) rfl (by simp [Value.oneCell']) (hK _ _ ?_); clear hK)
  refine name_w (fun W => Rw W w.heap.size zs 27 ∧ Rw W (w.heap.size + 1) zs 27 ∧ Below w.heap.size w W) ⟨?_, ?_, below_setRow (((Below.refl _ _).alloc (Nat.le_refl _) _).alloc (by simp) _) (by omega) _⟩ ?_
  · rw [HZV.out]; exact (setRow_block _ _ _ _ (by omega)).trans ((Rw.new w zeroC 27).alloc _)
  · rw [HZV.out]; exact Rw.set (heap_alloc2_new w (.cells zeroC 27) (.cells zeroC 27)) _
  rintro w0 ⟨hA, hB, hb⟩
  have RA_w0 := Lib.hid hA
  have RB_w0 := Lib.hid hB
  have HB_w0 := Lib.hid hb
  clear hA hB hb
  go_wp2_with fail
  refine (HC.out _).mono ?_
  rintro e w1 ⟨u, rfl, ho, hb⟩
  have HB_w1 := Lib.hid (HB_w0.out.trans (hb.mono HB_w0.out.size))
  have RA_w1 := Lib.hid (RA_w0.out.under hb RA_w0.out.lt)
  have RB_w1 := Lib.hid (RB_w0.out.under hb RB_w0.out.lt)
  have HU1 := Lib.hid (Vals.of_own ho)
  clear hb ho RA_w0 RB_w0 HB_w0
  obtain ⟨A, c, rfl⟩ : ∃ A c, u = .slice A 0 c := by
    obtain ⟨A, c, h⟩ := HU1.out.slice
    exact ⟨A, c, h⟩
  have ZS := Lib.hid (RA_w1.out.set zs)
  have BS := Lib.hid (below_setRow HB_w1.out (Nat.le_refl _) zs)
  go_wp2_with (first | (refine wpList_load_row rfl 27 (.tmp 4) rfl (w.heap.size + 1) rfl 27 zs (0, 0) _ RB_w1.out Tryd.underlying27 rfl (by rw [HZZ.out]; exact i19) ?_) | (refine wpList_plain rfl fun _ hK => wp_store_row 27 (.tmp 2) (.tmp 19) rfl w.heap.size zs rfl rfl 27 _ RA_w1.out (by rw [HZZ.out]; exact i19) rfl HZ1.out (hK _ _ ?_); clear hK))
  (try simp only [Exit.inBlock, Exit.then])
  refine bodyPost_ret (results_cell_tmp rfl _ _ w.heap.size 27 zs (0, 0) _ rfl ZS.out Tryd.underlying27 rfl (by rw [HZZ.out]; exact i19)) rfl ?_
  exact ⟨by rw [HX.out, HZV.out]; rfl, BS.out⟩

set_option maxRecDepth 100000 in
set_option maxHeartbeats 4000000 in
theorem mget9_nil (s : ByteArray) (w : World) (hs : s.size ≤ 20000) (hG : gets [] s.data.toList = (0, [])) : Calls Tryd.prog 13 #[.string s] w (GetR (rget s.data.toList) w) := by
  have HX : Hid (rget s.data.toList = (zeroR, 6)) := Lib.hid (by unfold rget; rw [hG]; rfl)
  have HC : Hid (∀ W, Calls Tryd.prog 14 #[.string s] W (GotL (0, []) W)) := Lib.hid (fun W => by rw [← hG]; exact mget_any s W hs)
  clear hG
  obtain ⟨zs, hzs⟩ : ∃ zs, zs = zeroC := ⟨_, rfl⟩
  have HZZ : Hid (zs.size = 19) := Lib.hid (by rw [hzs]; rfl)
  have HZ1 : Hid (zs.all (·.oneCell') = true) := Lib.hid (by rw [hzs]; exact recC_one _)
  have HZV : Hid (zs = recC zeroR) := Lib.hid hzs
  clear hzs
  go_enter Tryd.func13, Tryd.ntmps13
  go_upto_region 2 with (refine wpList_plain rfl fun _ hK => wp_store_row 27 (.tmp 4) (.tmp 11) rfl (w.heap.size + 1) _ rfl rfl 27 _ (heap_alloc2_new w _ _) (by kernel_rfl) rfl (by simp [Value.oneCell']) (hK _ _ ?_); clear hK)
  refine name_w (fun W => Rw W w.heap.size zs 27 ∧ Rw W (w.heap.size + 1) zs 27 ∧ Below w.heap.size w W) ⟨?_, ?_, below_setRow (((Below.refl _ _).alloc (Nat.le_refl _) _).alloc (by simp) _) (by omega) _⟩ ?_
  · rw [HZV.out]; exact (setRow_block _ _ _ _ (by omega)).trans ((Rw.new w zeroC 27).alloc _)
  · rw [HZV.out]; exact Rw.set (heap_alloc2_new w (.cells zeroC 27) (.cells zeroC 27)) _
  rintro w0 ⟨hA, hB, hb⟩
  have RA_w0 := Lib.hid hA
  have RB_w0 := Lib.hid hB
  have HB_w0 := Lib.hid hb
  clear hA hB hb
  go_wp2_with fail
  refine (HC.out _).mono ?_
  rintro e w1 ⟨u, rfl, ho, hb⟩
  have HB_w1 := Lib.hid (HB_w0.out.trans (hb.mono HB_w0.out.size))
  have RA_w1 := Lib.hid (RA_w0.out.under hb RA_w0.out.lt)
  have RB_w1 := Lib.hid (RB_w0.out.under hb RB_w0.out.lt)
  have HU1 := Lib.hid (Vals.of_own ho)
  clear hb ho RA_w0 RB_w0 HB_w0
  obtain ⟨A, c, rfl⟩ : ∃ A c, u = .slice A 0 c := by
    obtain ⟨A, c, h⟩ := HU1.out.slice
    exact ⟨A, c, h⟩
  have ZS := Lib.hid (RA_w1.out.set zs)
  have BS := Lib.hid (below_setRow HB_w1.out (Nat.le_refl _) zs)
  go_wp2_with (first | (refine wpList_load_row rfl 27 (.tmp 4) rfl (w.heap.size + 1) rfl 27 zs (0, 0) _ RB_w1.out Tryd.underlying27 rfl (by rw [HZZ.out]; exact i19) ?_) | (refine wpList_plain rfl fun _ hK => wp_store_row 27 (.tmp 2) (.tmp 24) rfl w.heap.size zs rfl rfl 27 _ RA_w1.out (by rw [HZZ.out]; exact i19) rfl HZ1.out (hK _ _ ?_); clear hK))
  (try simp only [Exit.inBlock, Exit.then])
  refine bodyPost_ret (results_cell_tmp rfl _ _ w.heap.size 27 zs (0, 0) _ rfl ZS.out Tryd.underlying27 rfl (by rw [HZZ.out]; exact i19)) rfl ?_
  exact ⟨by rw [HX.out, HZV.out]; rfl, BS.out⟩

set_option maxRecDepth 100000 in
set_option maxHeartbeats 4000000 in
theorem mget9_kind (s : ByteArray) (w : World) (hs : s.size ≤ 20000) (kn : Nat) (rest : List Nat) (hG : gets [] s.data.toList = (0, kn :: rest)) (hr : rest.length ≤ 20000) (hk : kindF (kn : Int) = none) : Calls Tryd.prog 13 #[.string s] w (GetR (rget s.data.toList) w) := by
  have HX : Hid (rget s.data.toList = (zeroR, 6)) := Lib.hid (by unfold rget rgot; rw [hG]; simp only; rw [if_neg (by simp), hk])
  have HC : Hid (∀ W, Calls Tryd.prog 14 #[.string s] W (GotL (0, kn :: rest) W)) := Lib.hid (fun W => by rw [← hG]; exact mget_any s W hs)
  have HMO : Hid (∀ W, Calls Tryd.prog 20 #[.int .i64 (kn : Int)] W (GotM W (kn : Int))) := Lib.hid (fun W => most_any _ W)
  have HK := Lib.hid hk
  clear hG hk
  obtain ⟨zs, hzs⟩ : ∃ zs, zs = zeroC := ⟨_, rfl⟩
  have HZZ : Hid (zs.size = 19) := Lib.hid (by rw [hzs]; rfl)
  have HZ1 : Hid (zs.all (·.oneCell') = true) := Lib.hid (by rw [hzs]; exact recC_one _)
  have HZV : Hid (zs = recC zeroR) := Lib.hid hzs
  clear hzs
  go_enter Tryd.func13, Tryd.ntmps13
  go_upto_region 2 with (refine wpList_plain rfl fun _ hK => wp_store_row 27 (.tmp 4) (.tmp 11) rfl (w.heap.size + 1) _ rfl rfl 27 _ (heap_alloc2_new w _ _) (by kernel_rfl) rfl (by simp [Value.oneCell']) (hK _ _ ?_); clear hK)
  refine name_w (fun W => Rw W w.heap.size zs 27 ∧ Rw W (w.heap.size + 1) zs 27 ∧ Below w.heap.size w W) ⟨?_, ?_, below_setRow (((Below.refl _ _).alloc (Nat.le_refl _) _).alloc (by simp) _) (by omega) _⟩ ?_
  · rw [HZV.out]; exact (setRow_block _ _ _ _ (by omega)).trans ((Rw.new w zeroC 27).alloc _)
  · rw [HZV.out]; exact Rw.set (heap_alloc2_new w (.cells zeroC 27) (.cells zeroC 27)) _
  rintro w0 ⟨hA, hB, hb⟩
  have RA_w0 := Lib.hid hA
  have RB_w0 := Lib.hid hB
  have HB_w0 := Lib.hid hb
  clear hA hB hb
  go_wp2_with fail
  refine (HC.out _).mono ?_
  rintro e w1 ⟨u, rfl, ho, hb⟩
  have HB_w1 := Lib.hid (HB_w0.out.trans (hb.mono HB_w0.out.size))
  have RA_w1 := Lib.hid (RA_w0.out.under hb RA_w0.out.lt)
  have RB_w1 := Lib.hid (RB_w0.out.under hb RB_w0.out.lt)
  have HU1 := Lib.hid (Vals.of_own ho)
  clear hb ho RA_w0 RB_w0 HB_w0
  obtain ⟨b, off, c, rfl, hcc, hbb, hxx⟩ := HU1.out.full (by simp [nums, ints])
  have k0 : w1.cell? ⟨b, off, none⟩ = some (.int .i64 (kn : Int)) := hxx 0 _ rfl
  rw [show (nums (0, kn :: rest).2).length = rest.length + 1 by simp [nums, ints]]
  clear hcc hxx
  go_wp2_with fail
  refine (HMO.out _).mono ?_
  rintro e w2 ⟨v, rfl, _, hb⟩
  rw [HK.out]
  have HB_w2 := Lib.hid (HB_w1.out.trans (hb.mono HB_w1.out.size))
  have RA_w2 := Lib.hid (RA_w1.out.under hb RA_w1.out.lt)
  have RB_w2 := Lib.hid (RB_w1.out.under hb RB_w1.out.lt)
  clear hb k0 RA_w1 RB_w1 HB_w1
  have ZS := Lib.hid (RA_w2.out.set zs)
  have BS := Lib.hid (below_setRow HB_w2.out (Nat.le_refl _) zs)
  go_wp2_with (first | (refine wpList_load_row rfl 27 (.tmp 4) rfl (w.heap.size + 1) rfl 27 zs (0, 0) _ RB_w2.out Tryd.underlying27 rfl (by rw [HZZ.out]; exact i19) ?_) | (refine wpList_plain rfl fun _ hK => wp_store_row 27 (.tmp 2) (.tmp 34) rfl w.heap.size zs rfl rfl 27 _ RA_w2.out (by rw [HZZ.out]; exact i19) rfl HZ1.out (hK _ _ ?_); clear hK))
  (try simp only [Exit.inBlock, Exit.then])
  refine bodyPost_ret (results_cell_tmp rfl _ _ w.heap.size 27 zs (0, 0) _ rfl ZS.out Tryd.underlying27 rfl (by rw [HZZ.out]; exact i19)) rfl ?_
  exact ⟨by rw [HX.out, HZV.out]; rfl, BS.out⟩

set_option maxRecDepth 100000 in
set_option maxHeartbeats 4000000 in
theorem mget9_len (s : ByteArray) (w : World) (hs : s.size ≤ 20000) (kn : Nat) (rest fs : List Nat) (hG : gets [] s.data.toList = (0, kn :: rest)) (hr : rest.length ≤ 20000) (hk : kindF (kn : Int) = some fs) (hl : rest.length ≠ fs.length) : Calls Tryd.prog 13 #[.string s] w (GetR (rget s.data.toList) w) := by
  have HX : Hid (rget s.data.toList = (zeroR, 4)) := Lib.hid (by unfold rget rgot; rw [hG]; simp only; rw [if_neg (by simp), hk]; simp only; rw [if_neg hl])
  have HC : Hid (∀ W, Calls Tryd.prog 14 #[.string s] W (GotL (0, kn :: rest) W)) := Lib.hid (fun W => by rw [← hG]; exact mget_any s W hs)
  have HMO : Hid (∀ W, Calls Tryd.prog 20 #[.int .i64 (kn : Int)] W (GotM W (kn : Int))) := Lib.hid (fun W => most_any _ W)
  have HK := Lib.hid hk
  have hfn : fs.length ≤ 12 := (kind_lt hk).1
  have hl2 : ((rest.length : Int) != (fs.length : Int)) = true := by simp; omega
  clear hG hk hl
  obtain ⟨zs, hzs⟩ : ∃ zs, zs = zeroC := ⟨_, rfl⟩
  have HZZ : Hid (zs.size = 19) := Lib.hid (by rw [hzs]; rfl)
  have HZ1 : Hid (zs.all (·.oneCell') = true) := Lib.hid (by rw [hzs]; exact recC_one _)
  have HZV : Hid (zs = recC zeroR) := Lib.hid hzs
  clear hzs
  go_enter Tryd.func13, Tryd.ntmps13
  go_upto_region 2 with (refine wpList_plain rfl fun _ hK => wp_store_row 27 (.tmp 4) (.tmp 11) rfl (w.heap.size + 1) _ rfl rfl 27 _ (heap_alloc2_new w _ _) (by kernel_rfl) rfl (by simp [Value.oneCell']) (hK _ _ ?_); clear hK)
  refine name_w (fun W => Rw W w.heap.size zs 27 ∧ Rw W (w.heap.size + 1) zs 27 ∧ Below w.heap.size w W) ⟨?_, ?_, below_setRow (((Below.refl _ _).alloc (Nat.le_refl _) _).alloc (by simp) _) (by omega) _⟩ ?_
  · rw [HZV.out]; exact (setRow_block _ _ _ _ (by omega)).trans ((Rw.new w zeroC 27).alloc _)
  · rw [HZV.out]; exact Rw.set (heap_alloc2_new w (.cells zeroC 27) (.cells zeroC 27)) _
  rintro w0 ⟨hA, hB, hb⟩
  have RA_w0 := Lib.hid hA
  have RB_w0 := Lib.hid hB
  have HB_w0 := Lib.hid hb
  clear hA hB hb
  go_wp2_with fail
  refine (HC.out _).mono ?_
  rintro e w1 ⟨u, rfl, ho, hb⟩
  have HB_w1 := Lib.hid (HB_w0.out.trans (hb.mono HB_w0.out.size))
  have RA_w1 := Lib.hid (RA_w0.out.under hb RA_w0.out.lt)
  have RB_w1 := Lib.hid (RB_w0.out.under hb RB_w0.out.lt)
  have HU1 := Lib.hid (Vals.of_own ho)
  clear hb ho RA_w0 RB_w0 HB_w0
  obtain ⟨b, off, c, rfl, hcc, hbb, hxx⟩ := HU1.out.full (by simp [nums, ints])
  have k0 : w1.cell? ⟨b, off, none⟩ = some (.int .i64 (kn : Int)) := hxx 0 _ rfl
  rw [show (nums (0, kn :: rest).2).length = rest.length + 1 by simp [nums, ints]]
  clear hcc hxx
  go_wp2_with fail
  refine (HMO.out _).mono ?_
  rintro e w2 ⟨v, rfl, hv, hb⟩
  rw [HK.out] at hv ⊢
  obtain ⟨A2, c2, rfl⟩ : ∃ A c, v = .slice A fs.length c := by
    obtain ⟨A, c, h⟩ := hv.slice
    exact ⟨A, c, by rw [h, ints_len]; simp [mosts]⟩
  have HB_w2 := Lib.hid (HB_w1.out.trans (hb.mono HB_w1.out.size))
  have RA_w2 := Lib.hid (RA_w1.out.under hb RA_w1.out.lt)
  have RB_w2 := Lib.hid (RB_w1.out.under hb RB_w1.out.lt)
  clear hb hv k0 RA_w1 RB_w1 HB_w1
  have ZS := Lib.hid (RA_w2.out.set zs)
  have BS := Lib.hid (below_setRow HB_w2.out (Nat.le_refl _) zs)
  go_wp2_with (first | (refine wpList_load_row rfl 27 (.tmp 4) rfl (w.heap.size + 1) rfl 27 zs (0, 0) _ RB_w2.out Tryd.underlying27 rfl (by rw [HZZ.out]; exact i19) ?_) | (refine wpList_plain rfl fun _ hK => wp_store_row 27 (.tmp 2) (.tmp 41) rfl w.heap.size zs rfl rfl 27 _ RA_w2.out (by rw [HZZ.out]; exact i19) rfl HZ1.out (hK _ _ ?_); clear hK))
  (try simp only [Exit.inBlock, Exit.then])
  refine bodyPost_ret (results_cell_tmp rfl _ _ w.heap.size 27 zs (0, 0) _ rfl ZS.out Tryd.underlying27 rfl (by rw [HZZ.out]; exact i19)) rfl ?_
  exact ⟨by rw [HX.out, HZV.out]; rfl, BS.out⟩
end Go.Proofs.YthombepmlepgfaaDoor
