/-
  What package intent's Put answers.
-/
import Derived.Test.YthombepmlepgfaaDoorNone
namespace Go.Proofs.YthombepmlepgfaaDoor
open Go.RowKit

theorem kindT_eq (k : Int) : kindT k = (kindF k).map nums' := by
  unfold kindT kindF
  iterate 11
    split
    · rfl
  rfl
theorem all_fits {r : Rc} (h : FitsR r) : FitsAll r.all := by
  have b : ∀ q, Fits (bitI q) := by intro q; cases q <;> unfold Fits bitI <;> simp
  intro x hx
  unfold Rc.all at hx
  simp only [List.mem_cons, List.not_mem_nil, or_false] at hx
  rcases hx with rfl | rfl | rfl | rfl | rfl | rfl | rfl | rfl | rfl | rfl | rfl | rfl | rfl | rfl | rfl | rfl | rfl | rfl
  all_goals first | exact b _ | exact h.rev | exact h.cnt | exact h.delay | exact h.gen | exact h.tick | exact h.phase | exact h.active | exact h.r0 | exact h.r1 | exact h.w0 | exact h.w1 | exact h.sdelay | exact h.sgen | exact h.sw | exact h.flip
theorem recC_size (r : Rc) : (recC r).size = 19 := rfl
theorem i19 : (Tryd.prog.info? 27).map (·.size) = some 19 := by kernel_rfl
theorem i18 : (Tryd.prog.info? 49).map (·.size) = some 18 := by kernel_rfl
theorem i12 : (Tryd.prog.info? 25).map (·.size) = some 12 := by kernel_rfl
theorem own_lit (W : World) (x : Int) : (W.alloc (.cells #[.int .i64 x] 3)).ownsRow W.heap.size 3 1 (.slice (some ⟨W.heap.size, 0, none⟩) 1 1) 1 (ints [x]) :=
  ⟨by simp [ints], .inr ⟨W.heap.size, 1, #[.int .i64 x], rfl, Nat.le_refl _, heap_alloc_new W _, Nat.le_refl _, by unfold maxLen; omega, rfl, by simp [ints]⟩⟩
/-- What Put leaves. -/
def PutR (r : Rc) (w : World) (e : Ending) (w' : World) : Prop := e = .returned (.tuple #[.string (rput r).1, .int .i64 ((rput r).2 : Int)]) ∧ Below w.heap.size w w'

set_option maxRecDepth 100000 in
set_option maxHeartbeats 2000000 in
theorem iput_none (r : Rc) (w : World) (hr : FitsR r) (hk : kindF r.kind = none) : Calls Tryd.prog 9 #[recV r] w (PutR r w) := by
  have HF := Lib.hid hr
  have HE : Hid (rput r = (⟨#[]⟩, 6)) := Lib.hid (by unfold rput; rw [hk])
  have HT : Hid (kindT r.kind = none) := Lib.hid (by rw [kindT_eq, hk]; rfl)
  have HK : Hid (∀ W, Calls Tryd.prog 15 #[.int .i64 r.kind] W (GotF W r.kind)) := Lib.hid (fun W => fieldsOf_any r.kind W HF.out.kind)
  unfold recV
  obtain ⟨cs, hcs⟩ : ∃ cs, cs = recC r := ⟨_, rfl⟩
  have c0 : ((w.alloc (.cells cs 27)).cell? ⟨w.heap.size, 0, none⟩) = some (.int .i64 r.kind) := by rw [(Rw.new w cs 27).cell 0, hcs]; rfl
  rw [← hcs]
  clear hcs hk
  go_enter Tryd.func9, Tryd.ntmps9
  go_wp2_with fail
  refine (HK.out _).mono ?_
  rintro e w1 ⟨v, rfl, hv, hb⟩
  rw [HT.out]
  go_wp2
  go_ret2
  refine ⟨by rw [HE.out]; rfl, ((Below.refl _ _).alloc (Nat.le_refl _) _).trans (hb.mono (by simp))⟩

set_option maxRecDepth 100000 in
set_option maxHeartbeats 4000000 in
theorem iput_some (r : Rc) (w : World) (fs : List Nat) (hr : FitsR r) (hg : Gl w) (hk : kindF r.kind = some fs) : Calls Tryd.prog 9 #[recV r] w (PutR r w) := by
  have HF := Lib.hid hr
  have HG := Lib.hid hg
  have HKF := Lib.hid hk
  have HFS := Lib.hid (kind_lt hk)
  have hfn : fs.length ≤ 12 := HFS.out.1
  have HT : Hid (kindT r.kind = some (nums' fs)) := Lib.hid (by rw [kindT_eq, hk]; rfl)
  have HK : Hid (∀ W, Calls Tryd.prog 15 #[.int .i64 r.kind] W (GotF W r.kind)) := Lib.hid (fun W => fieldsOf_any r.kind W HF.out.kind)
  have HN : Hid (∀ W, Calls Tryd.prog 16 #[recV r] W fun e w' => e = .returned (arrV r.all) ∧ Below W.heap.size W w') := Lib.hid (fun W => numbersOf_any r W)
  obtain ⟨i3, hi3, hz30, hz31, hz32⟩ := info_parts Tinfo3
  obtain ⟨kd, hkd⟩ : ∃ kd, kd = r.kind := ⟨_, rfl⟩
  obtain ⟨ds, hds⟩ : ∃ ds, ds = (ints r.all).toArray := ⟨_, rfl⟩
  have HDS := Lib.hid hds
  have hdz : ds.size = 18 := by rw [hds]; rfl
  have HD1 : Hid (ds.all (·.oneCell') = true) := Lib.hid (by rw [hds]; simp [Rc.all, ints, Value.oneCell'])
  have HDA : Hid (arrV r.all = .agg ds) := Lib.hid (by rw [hds]; rfl)
  rw [HDA.out] at HN
  have HZ : Hid (∀ u W, Vals W u (ints (nums' fs)) → Calls Tryd.prog 17 #[.agg ds, u] W fun e w' => e = .returned (.bool (decide (zap r.all fs = zeros))) ∧ Below W.heap.size W w') := Lib.hid (fun u W hu => by
    have h1 := none_any r.all fs u W rfl (all_fits HF.out) HFS.out.2.1 HFS.out.1 hu
    rw [HDA.out] at h1
    exact h1)
  have HI : Hid (∀ u W, Vals W u (ints (nums' fs)) → Gl W → Calls Tryd.prog 18 #[.agg ds, u] W fun e w' => e = .returned (.bool (inside r.all fs)) ∧ Below W.heap.size W w') := Lib.hid (fun u W hu hG => by
    have h1 := within_any r.all fs u W rfl HFS.out.2.1 HFS.out.1 hu hG
    rw [HDA.out] at h1
    exact h1)
  unfold recV at HN ⊢
  obtain ⟨cs, hcs⟩ : ∃ cs, cs = recC r := ⟨_, rfl⟩
  have HR0 : Hid (Rw (w.alloc (.cells cs 27)) w.heap.size cs 27) := Lib.hid (Rw.new w cs 27)
  have c0 : ((w.alloc (.cells cs 27)).cell? ⟨w.heap.size, 0, none⟩) = some (.int .i64 kd) := by rw [HR0.out.cell 0, hcs, hkd]; rfl
  have hcz : cs.size = 19 := by rw [hcs]; rfl
  have HC0 : Hid (cs[0]? = some (.int .i64 kd)) := Lib.hid (by rw [hcs, hkd]; rfl)
  rw [← hcs] at HN ⊢
  rw [← hkd] at HK HT
  have HKD := Lib.hid hkd
  have HDZ := Lib.hid hdz
  have HCZ := Lib.hid hcz
  have HB0 : Hid (Below w.heap.size w (w.alloc (.cells cs 27))) := Lib.hid ((Below.refl _ _).alloc (Nat.le_refl _) _)
  clear hcs hk hds hkd hdz hcz hg hr
  go_enter Tryd.func9, Tryd.ntmps9
  go_wp2_with fail
  refine (HK.out _).mono ?_
  rintro e w1 ⟨v, rfl, hv, hb⟩
  rw [HT.out] at hv ⊢
  have HV1 : Hid (Vals w1 v (ints (nums' fs))) := Lib.hid hv
  have HR1 := Lib.hid (HR0.out.under hb (by simp))
  have HB1 := Lib.hid (HB0.out.trans (hb.mono (by simp)))
  obtain ⟨A, c, rfl⟩ : ∃ A c, v = .slice A fs.length c := by
    obtain ⟨A, c, h⟩ := HV1.out.slice
    exact ⟨A, c, by rw [h, ints_len, nums'_len]⟩
  clear hv hb c0 HR0 HB0
  go_wp2_with (refine wpList_load_row rfl 27 (.tmp 1) rfl w.heap.size rfl 27 cs (0, 0) _ HR1.out Tryd.underlying27 rfl (by rw [HCZ.out]; exact i19) ?_)
  refine (HN.out _).mono ?_
  rintro e w2 ⟨rfl, hb⟩
  have HB2 := Lib.hid (HB1.out.trans (hb.mono HB1.out.size))
  have HR2 := Lib.hid (HR1.out.under hb HR1.out.lt)
  have HV2 := Lib.hid (HV1.out.under hb)
  clear hb HR1 HV1
  go_wp2_with (first | (refine wpList_plain rfl fun _ hK => wp_store_row 49 (.tmp 6) (.tmp 21) rfl w2.heap.size ds rfl rfl 49 _ (Rw.new w2 _ 49) (by rw [HDZ.out]; exact i18) (by rw [HDZ.out]; rfl) HD1.out (hK _ _ ?_); clear hK; have HR3 := Lib.hid ((Rw.new w2 (ints zeros).toArray 49).set ds)) | (refine wpList_load_row rfl 49 (.tmp 6) rfl w2.heap.size rfl 49 ds (0, 0) _ HR3.out Tryd.underlying49 rfl (by rw [HDZ.out]; exact i18) ?_))
  have hb3 : Below w2.heap.size w2 ((w2.alloc (.cells (ints zeros).toArray 49)).setRow w2.heap.size ds) := below_setRow ((Below.refl _ _).alloc (Nat.le_refl _) _) (Nat.le_refl _) _
  refine (HZ.out _ _ (HV2.out.under hb3)).mono ?_
  rintro e w4 ⟨rfl, hb⟩
  have hs3 := hb3.size
  have HB4 := Lib.hid ((HB2.out.trans (hb3.mono HB2.out.size)).trans (hb.mono (Nat.le_trans HB2.out.size hs3)))
  have HR4 := Lib.hid ((HR2.out.under hb3 HR2.out.lt).under hb (Nat.lt_of_lt_of_le HR2.out.lt hs3))
  have HV4 := Lib.hid ((HV2.out.under hb3).under hb)
  have HD4 := Lib.hid (HR3.out.under hb HR3.out.lt)
  clear hb hb3 hs3 HR3 HV2 HR2
  by_cases hq : zap r.all fs = zeros
  · rw [decide_eq_true hq]
    have HQ := Lib.hid hq
    clear hq
    go_wp2_with (refine wpList_load_row rfl 49 (.tmp 6) rfl w2.heap.size rfl 49 ds (0, 0) _ HD4.out Tryd.underlying49 rfl (by rw [HDZ.out]; exact i18) ?_)
    refine (HI.out _ _ HV4.out (HG.out.under HB4.out HG.out.1)).mono ?_
    rintro e w5 ⟨rfl, hb⟩
    have HB5 := Lib.hid (HB4.out.trans (hb.mono HB4.out.size))
    have HR5 := Lib.hid (HR4.out.under hb HR4.out.lt)
    have HV5 := Lib.hid (HV4.out.under hb)
    have HD5 := Lib.hid (HD4.out.under hb HD4.out.lt)
    clear hb HR4 HV4 HD4
    by_cases hi : inside r.all fs = true
    · rw [hi]
      have HIN := Lib.hid hi
      have c5 : w5.cell? ⟨w.heap.size, 0, none⟩ = some (.int .i64 kd) := by rw [HR5.out.cell 0, HC0.out]
      clear hi
      go_wp2
      go_loopg [7, 35] fs.length (fun g u i wr => ∃ k : Nat, Hid (g = fs.length - k) ∧ k ≤ fs.length ∧ i = .int .i64 k ∧ Hid (wr.ownsRow w5.heap.size 3 1 u (k + 1) (ints (kd :: (fs.take k).map (at_ r.all)))) ∧ Hid (Below w5.heap.size w5 wr))
      case atStart => exact ⟨0, Lib.hid rfl, Nat.zero_le _, rfl, Lib.hid (own_lit w5 kd), Lib.hid ((Below.refl _ _).alloc (Nat.le_refl _) _)⟩
      case round =>
        obtain ⟨k, HKK, hk, rfl, HOW, HBL⟩ := hrel
        by_cases hlt : k < fs.length
        · obtain ⟨b, off, c', hve, hcc, hbb, hxx⟩ := HV5.out.full (by rw [ints_len, nums'_len]; omega)
          obtain rfl : A = some ⟨b, off, none⟩ := by injection hve
          obtain ⟨f, hfd⟩ : ∃ f, f = fs[k] := ⟨_, rfl⟩
          have hf18 : f < 18 := by rw [hfd]; exact HFS.out.2.1 _ (List.getElem_mem hlt)
          have cj : wr.cell? ⟨b, off + k, none⟩ = some (.int .i64 (f : Int)) := by
            rw [hfd]
            exact (HBL.out.cell (p := ⟨b, off + k, none⟩) hbb).trans (hxx k _ (nums'_at fs k hlt))
          obtain ⟨x, hx⟩ : ∃ x, x = at_ r.all f := ⟨_, rfl⟩
          have cx : wr.cell? ⟨w2.heap.size, f, none⟩ = some (.int .i64 x) := by
            rw [(HD5.out.under HBL.out HD5.out.lt).cell f, HDS.out, hx]
            exact arr_at r.all f hf18
          have HFD : Hid ((fs.take (k + 1)).map (at_ r.all) = (fs.take k).map (at_ r.all) ++ [x]) := Lib.hid (by rw [taken_snoc fs k hlt, List.map_append, ← hfd, hx]; rfl)
          clear hve hcc hxx hfd hx
          go_wp2_with (at_builtin; go_must (refine wpList_append_own _ rfl (.tmp 39) (.tmp 43) 40 rfl w5.heap.size 3 i3 (.int .i64 0) 1 8 Tryd.underlying40 hi3 hz30 hz31 hz32 rfl (by decide) _ (k + 1) (ints (kd :: (fs.take k).map (at_ r.all))) rfl (HOW.out.alloc _) ⟨wr.heap.size, 0, none⟩ 1 1 [.int .i64 x] rfl rfl (cell_one_new _ _ _) (by simp [Value.oneCell']) (by unfold maxLen; omega) (by omega) (by have := HBL.out.size; simp; omega) ?_); intro v3 w6 hown3 hgr3 _; have HOW3 := Lib.hid hown3; have HB6 := Lib.hid (below_grown (HBL.out.alloc (by have := HBL.out.size; omega) _) hgr3 (fun k hk => (own_lt HOW.out k hk).1) (Nat.le_refl _)); clear hown3 hgr3)
          go_roundg (fs.length - (k + 1))
          case measure => have := HKK.out; omega
          case rel =>
            refine ⟨k + 1, Lib.hid rfl, by omega, by go_num, Lib.hid ?_, HB6⟩
            rw [HFD.out, show kd :: ((fs.take k).map (at_ r.all) ++ [x]) = (kd :: (fs.take k).map (at_ r.all)) ++ [x] from rfl, ints_snoc]
            exact HOW3.out
        · obtain rfl : k = fs.length := by omega
          have HOV := Lib.hid (Vals.of_own HOW.out)
          have HPT : Hid (∀ u W, Vals W u (ints (kd :: (fs.take fs.length).map (at_ r.all))) → Calls Tryd.prog 19 #[u] W fun e w' => e = .returned (.tuple #[.string (rput r).1, .bool true]) ∧ Below W.heap.size W w') := Lib.hid (fun u W hu => by
            rw [List.take_length, HKD.out] at hu
            obtain ⟨h1, _, h3⟩ := put_form HKF.out HIN.out
            have h4 := put_any (r.kind :: fs.map (at_ r.all)) u W (by simp; omega) h3 hu
            rw [h1] at h4
            unfold rput
            rw [HKF.out]
            simp only
            rw [if_pos HQ.out, if_pos HIN.out]
            exact h4)
          have HEN : Hid ((rput r).2 = 0) := Lib.hid (by
            unfold rput
            rw [HKF.out]
            simp only
            rw [if_pos HQ.out, if_pos HIN.out])
          obtain ⟨S, hS⟩ : ∃ S, S = (rput r).1 := ⟨_, rfl⟩
          rw [← hS] at HPT
          have HS := Lib.hid hS
          clear hS
          go_wp2_with fail
          refine (HPT.out _ _ HOV.out).mono ?_
          rintro e w7 ⟨rfl, hb⟩
          have HB7 := Lib.hid ((HB5.out.trans (HBL.out.mono HB5.out.size)).trans (hb.mono (Nat.le_trans HB5.out.size HBL.out.size)))
          clear hb
          go_wp2
          go_ret2
          exact ⟨by rw [HEN.out, ← HS.out]; rfl, HB7.out⟩
    · rw [show inside r.all fs = false by simpa using hi]
      have HE : Hid (rput r = (⟨#[]⟩, 1)) := Lib.hid (by unfold rput; rw [HKF.out]; simp only; rw [if_pos HQ.out, if_neg hi])
      clear hi
      go_wp2
      go_ret2
      exact ⟨by rw [HE.out]; rfl, HB5.out⟩
  · rw [decide_eq_false hq]
    have HE : Hid (rput r = (⟨#[]⟩, 4)) := Lib.hid (by unfold rput; rw [HKF.out]; simp only; rw [if_neg hq])
    clear hq
    go_wp2
    go_ret2
    exact ⟨by rw [HE.out]; rfl, HB4.out⟩
theorem iput_any (r : Rc) (w : World) (hr : FitsR r) (hg : Gl w) : Calls Tryd.prog 9 #[recV r] w (PutR r w) := by
  cases hk : kindF r.kind with
  | none => exact iput_none r w hr hk
  | some fs => exact iput_some r w fs hr hg hk
end Go.Proofs.YthombepmlepgfaaDoor
