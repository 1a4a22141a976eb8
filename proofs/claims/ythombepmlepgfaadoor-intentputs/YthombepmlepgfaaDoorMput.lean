/-
  What the document's own Put answers.
-/
import Derived.Test.YthombepmlepgfaaDoorMcla
import Derived.Test.YthombepmlepgfaaDoorMclb
import Derived.Test.YthombepmlepgfaaDoorMclc
import Derived.Test.YthombepmlepgfaaDoorMfld
import Derived.Test.YthombepmlepgfaaDoorMwit
import Derived.Test.YthombepmlepgfaaDoorRef
namespace Go.Proofs.YthombepmlepgfaaDoor
open Go.RowKit

theorem mclean_any (r : Rc) (fs : List Nat) (w : World) (hr : FitsR r) (hk : kindF r.kind = some fs) : Calls Tryd.prog 21 #[recV r] w fun e w' => e = .returned (.bool (decide (zap r.all fs = zeros))) ∧ Below w.heap.size w w' := by
  rcases kind_some hk with ⟨h, rfl⟩ | ⟨h, rfl⟩ | ⟨h, rfl⟩ | ⟨h, rfl⟩ | ⟨h, rfl⟩ | ⟨h, rfl⟩ | ⟨h, rfl⟩ | ⟨h, rfl⟩ | ⟨h, rfl⟩ | ⟨h, rfl⟩ | ⟨h, rfl⟩
  · exact mclean_1 r w hr h
  · exact mclean_2 r w hr h
  · exact mclean_3 r w hr h
  · exact mclean_4 r w hr h
  · exact mclean_5 r w hr h
  · exact mclean_6 r w hr h
  · exact mclean_7 r w hr h
  · exact mclean_8 r w hr h
  · exact mclean_9 r w hr h
  · exact mclean_10 r w hr h
  · exact mclean_11 r w hr h

set_option maxRecDepth 100000 in
set_option maxHeartbeats 2000000 in
theorem mput9_none (r : Rc) (w : World) (hk : kindF r.kind = none) : Calls Tryd.prog 10 #[recV r] w (PutR r w) := by
  have HE : Hid (rput r = (⟨#[]⟩, 6)) := Lib.hid (by unfold rput; rw [hk])
  have HT := Lib.hid hk
  have HK : Hid (∀ W, Calls Tryd.prog 20 #[.int .i64 r.kind] W (GotM W r.kind)) := Lib.hid (fun W => most_any r.kind W)
  unfold recV
  obtain ⟨cs, hcs⟩ : ∃ cs, cs = recC r := ⟨_, rfl⟩
  have c0 : ((w.alloc (.cells cs 27)).cell? ⟨w.heap.size, 0, none⟩) = some (.int .i64 r.kind) := by rw [(Rw.new w cs 27).cell 0, hcs]; rfl
  rw [← hcs]
  clear hcs hk
  go_enter Tryd.func10, Tryd.ntmps10
  go_wp2_with fail
  refine (HK.out _).mono ?_
  rintro e w1 ⟨v, rfl, hv, hb⟩
  rw [HT.out]
  go_wp2
  go_ret2
  refine ⟨by rw [HE.out]; rfl, ((Below.refl _ _).alloc (Nat.le_refl _) _).trans (hb.mono (by simp))⟩

set_option maxRecDepth 100000 in
set_option maxHeartbeats 4000000 in
theorem mput9_some (r : Rc) (w : World) (fs : List Nat) (hr : FitsR r) (hk : kindF r.kind = some fs) : Calls Tryd.prog 10 #[recV r] w (PutR r w) := by
  have HF := Lib.hid hr
  have HKF := Lib.hid hk
  have hfn : fs.length ≤ 12 := (kind_lt hk).1
  have HMO : Hid (∀ W, Calls Tryd.prog 20 #[.int .i64 r.kind] W (GotM W r.kind)) := Lib.hid (fun W => most_any r.kind W)
  have HCL : Hid (∀ W, Calls Tryd.prog 21 #[recV r] W fun e w' => e = .returned (.bool (decide (zap r.all fs = zeros))) ∧ Below W.heap.size W w') := Lib.hid (fun W => mclean_any r fs W HF.out HKF.out)
  have HFI : Hid (∀ W, Calls Tryd.prog 22 #[recV r] W (GotV W (fs.map (at_ r.all)))) := Lib.hid (fun W => mfields_any r fs W HKF.out)
  have HWI : Hid (∀ v W, Vals W v (ints (fs.map (at_ r.all))) → Calls Tryd.prog 23 #[.int .i64 r.kind, v] W fun e w' => e = .returned (.bool (inside r.all fs)) ∧ Below W.heap.size W w') := Lib.hid (fun v W hv => by
    have h1 := mwithin_any r.kind fs (fs.map (at_ r.all)) v W HKF.out (by simp) hv
    rw [insideL_map] at h1
    exact h1)
  obtain ⟨i3, hi3, hz30, hz31, hz32⟩ := info_parts Tinfo3
  obtain ⟨kd, hkd⟩ : ∃ kd, kd = r.kind := ⟨_, rfl⟩
  obtain ⟨xs, hxs⟩ : ∃ xs, xs = fs.map (at_ r.all) := ⟨_, rfl⟩
  have hxl : xs.length ≤ 12 := by rw [hxs]; simpa using hfn
  unfold recV at HCL HFI ⊢
  obtain ⟨cs, hcs⟩ : ∃ cs, cs = recC r := ⟨_, rfl⟩
  have HCZ : Hid (cs.size = 19) := Lib.hid (by rw [hcs]; rfl)
  have HC0 : Hid (cs[0]? = some (.int .i64 kd)) := Lib.hid (by rw [hcs, hkd]; rfl)
  rw [← hcs] at HCL HFI ⊢
  rw [← hkd] at HMO HWI
  rw [← hxs] at HFI HWI
  have HKD := Lib.hid hkd
  have HXS := Lib.hid hxs
  clear hcs hk hkd hr hxs
  go_enter Tryd.func10, Tryd.ntmps10
  go_upto_region 1 with (fail)
  refine name_w (fun W => Rw W w.heap.size cs 27 ∧ Below w.heap.size w W) ⟨Rw.new _ _ _, (Below.refl _ _).alloc (Nat.le_refl _) _⟩ ?_
  rintro w0 ⟨hR, hb⟩
  have HR0 := Lib.hid hR
  have HB0 := Lib.hid hb
  have c0 : w0.cell? ⟨w.heap.size, 0, none⟩ = some (.int .i64 kd) := by rw [HR0.out.cell 0, HC0.out]
  clear hR hb
  go_wp2_with fail
  refine (HMO.out _).mono ?_
  rintro e w1 ⟨v, rfl, _, hb⟩
  rw [show kindF kd = some fs by rw [HKD.out]; exact HKF.out]
  have HR1 := Lib.hid (HR0.out.under hb HR0.out.lt)
  have HB1 := Lib.hid (HB0.out.trans (hb.mono HB0.out.size))
  clear hb c0 HR0 HB0
  go_wp2_with (refine wpList_load_row rfl 27 (.tmp 1) rfl w.heap.size rfl 27 cs (0, 0) _ HR1.out Tryd.underlying27 rfl (by rw [HCZ.out]; exact i19) ?_)
  refine (HCL.out _).mono ?_
  rintro e w2 ⟨rfl, hb⟩
  have HR2 := Lib.hid (HR1.out.under hb HR1.out.lt)
  have HB2 := Lib.hid (HB1.out.trans (hb.mono HB1.out.size))
  clear hb HR1 HB1
  by_cases hq : zap r.all fs = zeros
  · rw [decide_eq_true hq]
    have HQ := Lib.hid hq
    clear hq
    go_wp2_with (refine wpList_load_row rfl 27 (.tmp 1) rfl w.heap.size rfl 27 cs (0, 0) _ HR2.out Tryd.underlying27 rfl (by rw [HCZ.out]; exact i19) ?_)
    refine (HFI.out _).mono ?_
    rintro e w3 ⟨u, rfl, hu, hb⟩
    have HR3 := Lib.hid (HR2.out.under hb HR2.out.lt)
    have HB3 := Lib.hid (HB2.out.trans (hb.mono HB2.out.size))
    have HU3 := Lib.hid hu
    have c3 : w3.cell? ⟨w.heap.size, 0, none⟩ = some (.int .i64 kd) := by rw [HR3.out.cell 0, HC0.out]
    clear hb hu HR2 HB2
    obtain ⟨A, c, rfl⟩ : ∃ A c, u = .slice A xs.length c := by
      obtain ⟨A, c, h⟩ := HU3.out.slice
      exact ⟨A, c, by rw [h, ints_len]⟩
    go_wp2_with fail
    refine (HWI.out _ _ HU3.out).mono ?_
    rintro e w4 ⟨rfl, hb⟩
    have HB4 := Lib.hid (HB3.out.trans (hb.mono HB3.out.size))
    have HU4 := Lib.hid (HU3.out.under hb)
    have c4 : w4.cell? ⟨w.heap.size, 0, none⟩ = some (.int .i64 kd) := by rw [(HR3.out.under hb HR3.out.lt).cell 0, HC0.out]
    clear hb c3 HR3 HB3 HU3
    by_cases hi : inside r.all fs = true
    · rw [hi]
      have HIN := Lib.hid hi
      have HPT : Hid (∀ u W, Vals W u (ints (kd :: xs)) → Calls Tryd.prog 24 #[u] W fun e w' => e = .returned (.tuple #[.string (rput r).1, .bool true]) ∧ Below W.heap.size W w') := Lib.hid (fun u W hu => by
        rw [HKD.out, HXS.out] at hu
        obtain ⟨h1, _, h3⟩ := put_form HKF.out HIN.out
        have h4 := mput_any (r.kind :: fs.map (at_ r.all)) u W (by simp; omega) h3 hu
        rw [h1] at h4
        unfold rput
        rw [HKF.out]
        simp only
        rw [if_pos HQ.out, if_pos HIN.out]
        exact h4)
      have HEN : Hid ((rput r).2 = 0) := Lib.hid (by
        unfold rput
        rw [HKF.out]
        simp only
        rw [if_pos HQ.out, if_pos HIN.out])
      obtain ⟨S, hS⟩ : ∃ S, S = (rput r).1 := ⟨_, rfl⟩
      rw [← hS] at HPT
      have HS := Lib.hid hS
      clear hS hi
      go_wp2_with (at_builtin; go_must (refine wp_append_vals _ rfl (.tmp 30) (.tmp 31) 40 rfl w4.heap.size 3 i3 (.int .i64 0) 8 Tryd.underlying40 hi3 hz30 hz31 hz32 rfl (.slice (some ⟨w4.heap.size, 0, none⟩) 1 1) 1 (ints [kd]) rfl (own_lit w4 kd) (.slice A xs.length c) (ints xs) rfl (HU4.out.under ((Below.refl _ _).alloc (Nat.le_refl _) _)) (ints_one _) (by rw [ints_len]; unfold maxLen; omega) (by rw [ints_len]; omega) (by simp) ?_); intro v2 w5 hown2 hgr2; have HC5 := Lib.hid (Vals.of_own hown2); have HB5 := Lib.hid (below_grown (HB4.out.alloc HB4.out.size _) hgr2 (fun k hk => Nat.le_trans HB4.out.size (own_lt (own_lit w4 kd) k hk).1) (Nat.le_refl _)); clear hown2 hgr2)
      refine (HPT.out _ _ HC5.out).mono ?_
      rintro e w6 ⟨rfl, hb⟩
      have HB6 := Lib.hid (HB5.out.trans (hb.mono HB5.out.size))
      clear hb
      go_wp2
      go_ret2
      exact ⟨by rw [HEN.out, ← HS.out]; rfl, HB6.out⟩
    · rw [show inside r.all fs = false by simpa using hi]
      have HE : Hid (rput r = (⟨#[]⟩, 1)) := Lib.hid (by unfold rput; rw [HKF.out]; simp only; rw [if_pos HQ.out, if_neg hi])
      clear hi
      go_wp2
      go_ret2
      exact ⟨by rw [HE.out]; rfl, HB4.out⟩
  · rw [decide_eq_false hq]
    have HE : Hid (rput r = (⟨#[]⟩, 4)) := Lib.hid (by unfold rput; rw [HKF.out]; simp only; rw [if_neg hq])
    clear hq
    go_wp2
    go_ret2
    exact ⟨by rw [HE.out]; rfl, HB2.out⟩
theorem mput9_any (r : Rc) (w : World) (hr : FitsR r) : Calls Tryd.prog 10 #[recV r] w (PutR r w) := by
  cases hk : kindF r.kind with
  | none => exact mput9_none r w hk
  | some fs => exact mput9_some r w fs hr hk
end Go.Proofs.YthombepmlepgfaaDoor
