/-
  switchback's IntentSizes: A record has at most 42 bytes, the first of which is its Kind; cut off it is none. For every input the law returns true, and each argument reads afterwards as it read before; switchback/intent.reaches is as the program's text lays it (the card ties it). No condition beside the row's own.
-/
import Derived.Test.YthombepmlepgfaaDoorLift
import Derived.Test.YthombepmlepgfaaDoorSize
import Derived.Test.YthombepmlepgfaaDoorRefGet
namespace Go.Proofs.YthombepmlepgfaaDoor.intentSizes
open Go.Proofs.YthombepmlepgfaaDoor
open Go.ChangeShapes Go.WideShapes Go.ChangeAt Go.RowKit
set_option linter.unusedVariables false

theorem take_list (x : ByteArray) (n : Nat) : (x.extract 0 n).data.toList = x.data.toList.take n := by
  rw [ByteArray.data_extract, Array.toList_extract, List.extract]
  simp

set_option maxRecDepth 100000 in
set_option maxHeartbeats 1000000 in
theorem walk_no (r : Rc) (n : Int) (w : World) (hg : Gl w) (hr : FitsR r) (h : (rput r).2 ≠ 0) : Calls Tryd.prog 7 #[recV r, .int .i64 n] w (Holds w) := by
  have HG := Lib.hid hg
  have HP : Hid (∀ W, Gl W → Calls Tryd.prog 9 #[recV r] W fun e w' => e = .returned (.tuple #[.string (rput r).1, .int .i64 ((rput r).2 : Int)]) ∧ Below W.heap.size W w') := Lib.hid (fun W h => iput_any r W hr h)
  have hno := rput_no h
  rw [hno] at HP
  unfold recV at HP ⊢
  obtain ⟨ea, hea⟩ : ∃ e, e = (rput r).2 := ⟨_, rfl⟩
  rw [← hea] at HP h
  have e1 : ((ea : Int) != 0) = true := by simpa using h
  obtain ⟨cs, hcs⟩ : ∃ c, c = recC r := ⟨_, rfl⟩
  have HCZ : Hid (cs.size = 19) := Lib.hid (by rw [hcs]; rfl)
  rw [← hcs] at HP ⊢
  clear hea hcs hg hr h hno
  go_enter Tryd.func7, Tryd.ntmps7
  go_upto_region 1 with (fail)
  refine name_w (fun W => Rw W w.heap.size cs 27 ∧ Below w.heap.size w W) ⟨Rw.new _ _ _, (Below.refl _ _).alloc (Nat.le_refl _) _⟩ ?_
  rintro w0 ⟨hA, hBl⟩
  have RA_w0 := Lib.hid hA
  have HB_w0 := Lib.hid hBl
  clear hA hBl
  go_wp2_with (refine wpList_load_any (by rfl) 27 (.tmp 2) rfl w.heap.size rfl 27 cs (0, 0) _ RA_w0.out Tryd.underlying27 rfl (by rw [HCZ.out]; exact i19) ?_)
  refine (HP.out _ (HG.out.under HB_w0.out HG.out.1)).mono ?_
  rintro e w1 ⟨rfl, hb⟩
  have HB_w1 := Lib.hid (HB_w0.out.trans (hb.mono HB_w0.out.size))
  have RA_w1 := Lib.hid (RA_w0.out.under hb RA_w0.out.lt)
  clear hb RA_w0
  go_wp2_with fail
  refine (awake_yes _ (HG.out.under HB_w1.out HG.out.1)).mono ?_
  rintro e w2 ⟨rfl, hb⟩
  have HB_w2 := Lib.hid (HB_w1.out.trans (hb.mono HB_w1.out.size))
  have RA_w2 := Lib.hid (RA_w1.out.under hb RA_w1.out.lt)
  clear hb RA_w1
  go_wp2_with fail
  refine (awake_yes _ (HG.out.under HB_w2.out HG.out.1)).mono ?_
  rintro e w3 ⟨rfl, hb⟩
  have HB_w3 := Lib.hid (HB_w2.out.trans (hb.mono HB_w2.out.size))
  have RA_w3 := Lib.hid (RA_w2.out.under hb RA_w2.out.lt)
  clear hb RA_w2
  go_wp2
  go_ret
  exact ⟨rfl, HB_w3.out⟩

set_option maxRecDepth 100000 in
set_option maxHeartbeats 4000000 in
theorem walk_yes (r : Rc) (n : Int) (w : World) (hg : Gl w) (hr : FitsR r) (h : (rput r).2 = 0) (hn : Fits n) : Calls Tryd.prog 7 #[recV r, .int .i64 n] w (Holds w) := by
  have HG := Lib.hid hg
  have HP : Hid (∀ W, Gl W → Calls Tryd.prog 9 #[recV r] W fun e w' => e = .returned (.tuple #[.string (rput r).1, .int .i64 ((rput r).2 : Int)]) ∧ Below W.heap.size W w') := Lib.hid (fun W h => iput_any r W hr h)
  rw [h] at HP
  obtain ⟨k, ns, fs, hk, hk1, hk2, _, _, _, _, e2, hsz⟩ := rput_form h
  have HCUT : Hid (∀ m, m < (rput r).1.size → (rget ((rput r).1.data.toList.take m)).2 ≠ 0) := Lib.hid (cut_none h)
  obtain ⟨x, hx⟩ : ∃ x, x = (rput r).1 := ⟨_, rfl⟩
  rw [← hx] at HP e2 hsz HCUT
  have hx0 : 0 < x.size := by
    have : x.size = x.data.toList.length := by simp
    rw [this, e2]; simp
  have hx1 : x[0].toNat = k := by
    have h1 : x.data.toList[0]? = some (UInt8.ofNat k) := by rw [e2]; rfl
    have h2 : x.data.toList[0]? = some x[0] := by
      rw [List.getElem?_eq_getElem (by simpa using hx0)]; rfl
    rw [h2] at h1
    rw [Option.some.inj h1, byte_low (by omega)]
  unfold recV at HP ⊢
  obtain ⟨cs, hcs⟩ : ∃ c, c = recC r := ⟨_, rfl⟩
  have HCZ : Hid (cs.size = 19) := Lib.hid (by rw [hcs]; rfl)
  have HC0 : Hid (cs[0]? = some (.int .i64 (k : Int))) := Lib.hid (by rw [hcs, ← hk]; rfl)
  rw [← hcs] at HP ⊢
  have f1 : (x.size == 0) = false := by rw [beq_eq_false_iff_ne]; omega
  have f1' : ((x.size : Int) == 0) = false := by rw [beq_eq_false_iff_ne]; omega
  have f2 : decide (42 < x.size) = false := by simp; omega
  have f2' : decide ((42 : Int) < (x.size : Int)) = false := by simp; omega
  have f0 : decide (x.size = 0) = false := by rw [decide_eq_false_iff_not]; omega
  unfold Fits at hn
  clear hcs hg hr h hx e2 hk
  go_enter Tryd.func7, Tryd.ntmps7
  go_upto_region 1 with (fail)
  refine name_w (fun W => Rw W w.heap.size cs 27 ∧ Below w.heap.size w W) ⟨Rw.new _ _ _, (Below.refl _ _).alloc (Nat.le_refl _) _⟩ ?_
  rintro w0 ⟨hA, hBl⟩
  have RA_w0 := Lib.hid hA
  have HB_w0 := Lib.hid hBl
  clear hA hBl
  go_wp2_with (refine wpList_load_any (by rfl) 27 (.tmp 2) rfl w.heap.size rfl 27 cs (0, 0) _ RA_w0.out Tryd.underlying27 rfl (by rw [HCZ.out]; exact i19) ?_)
  refine (HP.out _ (HG.out.under HB_w0.out HG.out.1)).mono ?_
  rintro e w1 ⟨rfl, hb⟩
  have HB_w1 := Lib.hid (HB_w0.out.trans (hb.mono HB_w0.out.size))
  have RA_w1 := Lib.hid (RA_w0.out.under hb RA_w0.out.lt)
  clear hb RA_w0
  go_wp2_with fail
  refine (awake_yes _ (HG.out.under HB_w1.out HG.out.1)).mono ?_
  rintro e w2 ⟨rfl, hb⟩
  have HB_w2 := Lib.hid (HB_w1.out.trans (hb.mono HB_w1.out.size))
  have RA_w2 := Lib.hid (RA_w1.out.under hb RA_w1.out.lt)
  clear hb RA_w1
  have c0 : w2.cell? ⟨w.heap.size, 0, none⟩ = some (.int .i64 (k : Int)) := by rw [RA_w2.out.cell 0, HC0.out]
  go_wp2_with fail
  go_quiet (fail)
  by_cases h1 : n < 0
  · have e1 : decide (n < 0) = true := by simpa using h1
    go_wp2
    go_ret
    exact ⟨rfl, HB_w2.out.trans (below_drewN _ _ _)⟩
  · have e1 : decide (n < 0) = false := by simpa using h1
    by_cases h2 : (x.size : Int) ≤ n
    · have e2 : decide ((x.size : Int) ≤ n) = true := by simpa using h2
      go_wp2
      go_ret
      exact ⟨rfl, HB_w2.out.trans (below_drewN _ _ _)⟩
    · obtain ⟨m, rfl⟩ : ∃ m : Nat, n = (m : Int) := ⟨n.toNat, by omega⟩
      have hm : m < x.size := by omega
      have e2 : decide ((x.size : Int) ≤ (m : Int)) = false := by simpa using h2
      have e2' : decide (x.size ≤ m) = false := by simp; omega
      have HF := HCUT.out m hm
      have HER : (gets [] (x.data.toList.take m)).1 ≠ 0 → (rget (x.data.toList.take m)).2 = (gets [] (x.data.toList.take m)).1 := rget_err
      have HGT : Hid (∀ W, Gl W → Calls Tryd.prog 12 #[.string (x.extract 0 m)] W fun e w' => e = .returned (.tuple #[recV (rget (x.data.toList.take m)).1, .int .i64 ((rget (x.data.toList.take m)).2 : Int)]) ∧ Below W.heap.size W w') := Lib.hid (fun W h => by
        have h1 := iget_any (x.extract 0 m) W (by simp; omega) h
        unfold GetR at h1
        rw [take_list] at h1
        exact h1)
      have HMT : Hid (∀ W, Calls Tryd.prog 14 #[.string (x.extract 0 m)] W fun e w' => ∃ u, e = .returned (.tuple #[u, .int .i64 ((gets [] (x.data.toList.take m)).1 : Int)]) ∧ Below W.heap.size W w') := Lib.hid (fun W => by
        have h1 := mget_any (x.extract 0 m) W (by simp; omega)
        rw [take_list] at h1
        refine h1.mono ?_
        rintro e w' ⟨u, he, _, hb⟩
        exact ⟨u, he, hb⟩)
      obtain ⟨F, hF⟩ : ∃ F, F = (rget (x.data.toList.take m)).2 := ⟨_, rfl⟩
      obtain ⟨K, hK⟩ : ∃ K, K = (gets [] (x.data.toList.take m)).1 := ⟨_, rfl⟩
      obtain ⟨ds, hds⟩ : ∃ d, d = recC (rget (x.data.toList.take m)).1 := ⟨_, rfl⟩
      have HDZ : Hid (ds.size = 19) := Lib.hid (by rw [hds]; rfl)
      have HD1 : Hid (ds.all (·.oneCell') = true) := Lib.hid (by rw [hds]; exact recC_one _)
      unfold recV at HGT
      rw [← hF, ← hds] at HGT
      rw [← hK] at HMT
      rw [← hF, ← hK] at HER
      rw [← hF] at HF
      have e3 : ((F : Int) != 0) = true := by simpa using HF
      have HB_w3 := Lib.hid (HB_w2.out.trans (below_drewN w.heap.size w2 nq))
      have hw3 : ∀ W, W = w2.drewN nq → Below w.heap.size w W := fun W h => by rw [h]; exact HB_w3.out
      clear hF hK hds HCUT h1 h2 c0
      go_wp2_with fail
      refine (HGT.out _ (HG.out.under HB_w3.out HG.out.1)).mono ?_
      rintro e w4 ⟨rfl, hb⟩
      have HB_w4 := Lib.hid (HB_w3.out.trans (hb.mono HB_w3.out.size))
      clear hb hw3
      have hb5 : Below w4.heap.size w4 ((w4.alloc (.cells zeroC 27)).setRow w4.heap.size ds) := below_setRow ((Below.refl _ _).alloc (Nat.le_refl _) _) (Nat.le_refl _) _
      go_upto_region 9 with (refine wpList_plain rfl fun _ hK => wp_store_row 27 (.tmp 7) (.tmp 56) rfl w4.heap.size ds rfl rfl 27 _ (Rw.new w4 _ 27) (by rw [HDZ.out]; exact i19) (by rw [HDZ.out]; rfl) HD1.out (hK _ _ ?_); clear hK)
      refine name_w (fun W => Below w4.heap.size w4 W) hb5 ?_
      clear hb5
      intro w5 hb
      have HB_w5 := Lib.hid (HB_w4.out.trans (hb.mono HB_w4.out.size))
      clear hb
      go_wp2_with fail
      refine (HMT.out _).mono ?_
      rintro e w6 ⟨u, rfl, hb⟩
      have HB_w6 := Lib.hid (HB_w5.out.trans (hb.mono HB_w5.out.size))
      clear hb
      by_cases hK0 : K = 0
      · subst hK0
        go_wp2
        go_ret
        exact ⟨rfl, HB_w6.out⟩
      · obtain rfl := HER hK0
        have e4 : ((F : Int) == 0) = false := by simpa using HF
        have e4' : (F == 0) = false := by simpa using HF
        have e4'' : decide (F = 0) = false := by simpa using HF
        go_wp2
        go_ret
        exact ⟨rfl, HB_w6.out⟩
theorem walk (r : Rc) (n : Int) (w : World) (hg : Gl w) (hr : FitsR r) (hn : Fits n) : Calls Tryd.prog 7 #[recV r, .int .i64 n] w (Holds w) := by
  by_cases h : (rput r).2 = 0
  · exact walk_yes r n w hg hr h hn
  · exact walk_no r n w hg hr h

/-! From the walk to the given row and card. -/
set_option maxRecDepth 100000 in
theorem lifted (os : Os) (started : os.Started) (H : Type) (enc : TypeId × Value → H) :
    ReturnsInHanded {} Tryd.checked os 7 .any (fun w args => (Rows.intentSizesSpec.pre enc Tryd.prog Tryd.f7 [] false w args ∧ laidMetH Tryd.prog laidList w) ∧ sizedMet enc Tryd.prog Tryd.f7 (OpenSpec.ofChange Rows.intentSizesSpec) false w args)
      (Rows.intentSizesSpec.post enc Tryd.prog Tryd.f7 false true false false) := by
  refine returnsInHanded_of_change_and (C := Tryd.checked) (X := fun w _ => laidMetH Tryd.prog laidList w) (fun _ _ _ hh h => h.of_heap hh) t_own started (by kernel_rfl) Tryd.func7
    (ChangeSpec.witness_shaped (enc := enc) (C := Tryd.checked) (os := os) (X := fun w _ => laidMetH Tryd.prog laidList w) false (laidWorld os) #[recV zeroR, .int .i64 0] 8 rfl (World.shaped_of_RefB (by kernel_rfl) (by kernel_rfl)) (by kernel_rfl) (by kernel_rfl) (by kernel_rfl) (laidWorld_met os _)) ?_
  intro W base args ds gs before hval0 hW _ _ hL _
  have hval : ∀ (j : Nat) t v, Tryd.f7.params[j]? = some t → args[j]? = some v → Value.okWide Tryd.prog W .any base t v := hval0
  have hW' := hW
  obtain ⟨p, q, hA0, hV0, rfl, hfz, hnd⟩ := hW
  have hA : DataW.TrodAll enc Tryd.prog W 0 (fun _ => true) true Tryd.f7.params.toList args.toList ds p := hA0
  rw [Tryd.params7] at hA hval
  obtain ⟨v0, vs0, d0, ds0, p0, q0, hargs, rfl, rfl, h0, r0_⟩ := trodAll_cons hA
  obtain ⟨v1, vs1, d1, ds1, p1, q1, rfl, rfl, rfl, h1, r1_⟩ := trodAll_cons r0_
  obtain ⟨rfl, rfl, rfl⟩ := trodAll_nil r1_
  obtain rfl : args = #[v0, v1] := by cases args; simp_all
  obtain ⟨r, rfl, hr⟩ := open_rec (hval 0 27 v0 rfl rfl) h0
  obtain ⟨n, rfl, rfl, rfl, hn⟩ := open_int Tryd.underlying3 (hval 1 3 v1 rfl rfl) h1
  refine (walk r n W (gl_of_laid hL) hr (bounds_i64 hn)).mono fun e W' ⟨he, hb⟩ => ?_
  subst he
  exact ⟨_, rfl, post_of_holds hW' (by kernel_rfl) rfl (by rw [Tryd.params7]; exact fun t ht => params_ok t (by simp at ht; rcases ht with rfl | rfl <;> simp)) ⟨rfl, rfl, rfl⟩ hb⟩

theorem row_holds : Rows.IntentSizesSaid :=
  OpenClaim.holds_of_wide 7 Tryd.f7 rfl rfl rfl rfl rfl rfl rfl ⟨rfl, rfl, rfl, rfl, rfl⟩ rfl rfl rfl rfl rfl (by kernel_rfl) Tryd.func7 (by kernel_rfl)
    (of_decide_eq_true (by kernel_rfl)) (by unfold Func.isWrapper; first | (rw [if_pos (by decide +kernel)]; kernel_rfl) | (rw [if_neg (by decide +kernel)]; exact ⟨rfl, rfl⟩))
    (fun os started H enc _ => lifted os started H enc)

/-- The given statement. -/
theorem proved : Rows.IntentSizesCardSaid :=
  Claim7.holds_tied_plain_at .later [] [.data] true (true, "365df40b4b06091b173e89a3fcd023001c63cb50760d75e96657b72a7a900189") false
    row_holds (fun _ h => by cases h) (by kernel_rfl) (fun _ h => by cases h) intentSizes_row_tie rfl ⟨rfl, rfl⟩ (by kernel_rfl) rfl
    (fun f fn hf hfn => by
      obtain rfl : f = 7 := Option.some.inj ((show Tryd.prog.funcNamed "switchback/switchbacklaw09.IntentSizes" = some 7 by kernel_rfl).symm.trans hf) |>.symm
      obtain rfl : fn = Tryd.f7 := (Option.some.inj (Tryd.func7.symm.trans hfn)).symm
      exact ⟨by kernel_rfl, fun j t ht => by
        rw [Tryd.params7] at ht
        have ht' : t ∈ [27, 3] := by
          have := Array.mem_of_getElem? ht
          simpa using this
        exact params_plain t (by simp at ht'; rcases ht' with rfl | rfl <;> simp)⟩)
    (by kernel_rfl)
#print axioms proved
end Go.Proofs.YthombepmlepgfaaDoor.intentSizes
