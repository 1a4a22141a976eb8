/-
  switchback's IntentOne: Bytes that are got are put as they were. For every input the law returns true, and each argument reads afterwards as it read before; switchback/intent.reaches is as the program's text lays it (the card ties it). No condition beside the row's own.
-/
import Derived.Test.YthombepmlepgfaaDoorLift
import Derived.Test.YthombepmlepgfaaDoorSize
namespace Go.Proofs.YthombepmlepgfaaDoor.intentOne
open Go.Proofs.YthombepmlepgfaaDoor
open Go.ChangeShapes Go.WideShapes Go.ChangeAt Go.RowKit
set_option linter.unusedVariables false

set_option maxRecDepth 100000 in
set_option maxHeartbeats 1000000 in
theorem walk_long (s : ByteArray) (w : World) (hg : Gl w) (hs : s.size ≤ maxLen) (h : 500 < s.size) : Calls Tryd.prog 6 #[.string s] w (Holds w) := by
  have HG := Lib.hid hg
  unfold maxLen at hs
  have HB_w := Lib.hid (Below.refl w.heap.size w)
  clear hg
  go_enter Tryd.func6, Tryd.ntmps6
  go_wp2_with fail
  refine (awake_yes _ HG.out).mono ?_
  rintro e w1 ⟨rfl, hb⟩
  have HB_w1 := Lib.hid (HB_w.out.trans (hb.mono HB_w.out.size))
  clear hb 
  go_wp2_with fail
  refine (awake_yes _ (HG.out.under HB_w1.out HG.out.1)).mono ?_
  rintro e w2 ⟨rfl, hb⟩
  have HB_w2 := Lib.hid (HB_w1.out.trans (hb.mono HB_w1.out.size))
  clear hb 
  go_wp2
  go_ret
  exact ⟨rfl, HB_w2.out⟩

set_option maxRecDepth 100000 in
set_option maxHeartbeats 4000000 in
theorem walk_main (s : ByteArray) (w : World) (hg : Gl w) (hs : s.size ≤ 500) : Calls Tryd.prog 6 #[.string s] w (Holds w) := by
  have HG := Lib.hid hg
  have HGT : Hid (∀ W, Gl W → Calls Tryd.prog 12 #[.string s] W fun e w' => e = .returned (.tuple #[recV (rget s.data.toList).1, .int .i64 ((rget s.data.toList).2 : Int)]) ∧ Below W.heap.size W w') := Lib.hid (fun W h => iget_any s W (by omega) h)
  have HFT := Lib.hid (fits_rget s.data.toList)
  have HPT : Hid ((rget s.data.toList).2 = 0 → ∀ W, Gl W → Calls Tryd.prog 9 #[recV (rget s.data.toList).1] W fun e w' => e = .returned (.tuple #[.string s, .int .i64 0]) ∧ Below W.heap.size W w') := Lib.hid (fun h0 W h => by
    have h1 := iput_any (rget s.data.toList).1 W HFT.out h
    unfold PutR at h1
    rw [rput_rget h0] at h1
    exact h1)
  have HNO : Hid ((rget s.data.toList).2 ≠ 0 → (rget s.data.toList).1 = zeroR) := Lib.hid rget_no
  obtain ⟨E, hE⟩ : ∃ E, E = (rget s.data.toList).2 := ⟨_, rfl⟩
  obtain ⟨r, hr⟩ : ∃ r, r = (rget s.data.toList).1 := ⟨_, rfl⟩
  rw [← hE, ← hr] at HGT HPT HNO
  rw [← hr] at HFT
  have HEZ : ∀ W, (Op.equalIn 10000 27 (recV zeroR) (recV zeroR)).run Tryd.prog W = .ok true W := by
    obtain ⟨q, h1, h2⟩ := eq27 fits_zero fits_zero
    rw [h2.2 rfl] at h1
    exact h1
  have HB_w := Lib.hid (Below.refl w.heap.size w)
  clear hE hr hg
  by_cases h0 : E = 0
  · have HP := Lib.hid (HPT.out h0)
    subst h0
    unfold recV at HGT HP
    obtain ⟨cs, hcs⟩ : ∃ c, c = recC r := ⟨_, rfl⟩
    have HCZ : Hid (cs.size = 19) := Lib.hid (by rw [hcs]; rfl)
    have HC1 : Hid (cs.all (·.oneCell') = true) := Lib.hid (by rw [hcs]; exact recC_one _)
    rw [← hcs] at HGT HP
    clear hcs HPT HNO HEZ HFT
    go_enter Tryd.func6, Tryd.ntmps6
    go_wp2_with fail
    refine (awake_yes _ HG.out).mono ?_
    rintro e w1 ⟨rfl, hb⟩
    have HB_w1 := Lib.hid (HB_w.out.trans (hb.mono HB_w.out.size))
    clear hb 
    go_wp2_with fail
    refine (HGT.out _ (HG.out.under HB_w1.out HG.out.1)).mono ?_
    rintro e w2 ⟨rfl, hb⟩
    have HB_w2 := Lib.hid (HB_w1.out.trans (hb.mono HB_w1.out.size))
    clear hb 
    have hb3 : Below w2.heap.size w2 ((w2.alloc (.cells zeroC 27)).setRow w2.heap.size cs) := below_setRow ((Below.refl _ _).alloc (Nat.le_refl _) _) (Nat.le_refl _) _
    go_upto_region 4 with (refine wpList_plain rfl fun _ hK => wp_store_row 27 (.tmp 3) (.tmp 18) rfl w2.heap.size cs rfl rfl 27 _ (Rw.new w2 _ 27) (by rw [HCZ.out]; exact i19) (by rw [HCZ.out]; rfl) HC1.out (hK _ _ ?_); clear hK)
    refine name_w (fun W => Rw W w2.heap.size cs 27 ∧ Below w2.heap.size w2 W) ⟨(Rw.new w2 zeroC 27).set cs, hb3⟩ ?_
    clear hb3
    rintro w3 ⟨hQ, hb⟩
    have RQ_w3 := Lib.hid hQ
    have HB_w3 := Lib.hid (HB_w2.out.trans (hb.mono HB_w2.out.size))
    clear hQ hb
    go_wp2_with (refine wpList_load_any (by rfl) 27 (.tmp 3) rfl w2.heap.size rfl 27 cs (0, 0) _ RQ_w3.out Tryd.underlying27 rfl (by rw [HCZ.out]; exact i19) ?_)
    refine (HP.out _ (HG.out.under HB_w3.out HG.out.1)).mono ?_
    rintro e w4 ⟨rfl, hb⟩
    have HB_w4 := Lib.hid (HB_w3.out.trans (hb.mono HB_w3.out.size))
    clear hb 
    go_wp2
    go_ret
    exact ⟨rfl, HB_w4.out⟩
  · obtain rfl := HNO.out h0
    have e1 : ((E : Int) != 0) = true := by simpa using h0
    unfold recV at HGT HEZ
    have hz : recC zeroR = zeroC := rfl
    rw [hz] at HGT HEZ
    have HEZ2 : ∀ (cs : Array Value), cs = zeroC → ∀ W, (Op.equalIn 10000 27 (.agg cs) (.agg #[.int .i64 0, .int .i64 0, .int .i64 0, .int .i64 0, .int .i64 0, .int .i64 0, .bool false, .int .i64 0, .int .i64 0, .int .i64 0, .int .i64 0, .int .i64 0, .int .i64 0, .bool false, .bool false, .int .i64 0, .int .i64 0, .int .i64 0, .int .i64 0])).run Tryd.prog W = .ok true W := by
      intro cs h W
      rw [h]
      exact HEZ W
    obtain ⟨cs, hcs⟩ : ∃ c, c = zeroC := ⟨_, rfl⟩
    have HEZ3 := HEZ2 cs hcs
    have HCZ : Hid (cs.size = 19) := Lib.hid (by rw [hcs]; rfl)
    have HC1 : Hid (cs.all (·.oneCell') = true) := Lib.hid (by rw [hcs]; exact recC_one _)
    rw [← hcs] at HGT
    clear hcs HPT HNO HEZ HEZ2 HFT h0 hz
    go_enter Tryd.func6, Tryd.ntmps6
    go_wp2_with fail
    refine (awake_yes _ HG.out).mono ?_
    rintro e w1 ⟨rfl, hb⟩
    have HB_w1 := Lib.hid (HB_w.out.trans (hb.mono HB_w.out.size))
    clear hb 
    go_wp2_with fail
    refine (HGT.out _ (HG.out.under HB_w1.out HG.out.1)).mono ?_
    rintro e w2 ⟨rfl, hb⟩
    have HB_w2 := Lib.hid (HB_w1.out.trans (hb.mono HB_w1.out.size))
    clear hb 
    have hb3 : Below w2.heap.size w2 ((w2.alloc (.cells zeroC 27)).setRow w2.heap.size cs) := below_setRow ((Below.refl _ _).alloc (Nat.le_refl _) _) (Nat.le_refl _) _
    go_upto_region 4 with (refine wpList_plain rfl fun _ hK => wp_store_row 27 (.tmp 3) (.tmp 18) rfl w2.heap.size cs rfl rfl 27 _ (Rw.new w2 _ 27) (by rw [HCZ.out]; exact i19) (by rw [HCZ.out]; rfl) HC1.out (hK _ _ ?_); clear hK)
    refine name_w (fun W => Rw W w2.heap.size cs 27 ∧ Below w2.heap.size w2 W) ⟨(Rw.new w2 zeroC 27).set cs, hb3⟩ ?_
    clear hb3
    rintro w3 ⟨hQ, hb⟩
    have RQ_w3 := Lib.hid hQ
    have HB_w3 := Lib.hid (HB_w2.out.trans (hb.mono HB_w2.out.size))
    clear hQ hb
    go_wp2_with (refine wpList_load_any (by rfl) 27 (.tmp 3) rfl w2.heap.size rfl 27 cs (0, 0) _ RQ_w3.out Tryd.underlying27 rfl (by rw [HCZ.out]; exact i19) ?_)
    go_ret
    exact ⟨rfl, HB_w3.out⟩
theorem walk (s : ByteArray) (w : World) (hg : Gl w) (hs : s.size ≤ maxLen) : Calls Tryd.prog 6 #[.string s] w (Holds w) := by
  by_cases h : 500 < s.size
  · exact walk_long s w hg hs h
  · exact walk_main s w hg (by omega)

/-! From the walk to the given row and card. -/
set_option maxRecDepth 100000 in
theorem lifted (os : Os) (started : os.Started) (H : Type) (enc : TypeId × Value → H) :
    ReturnsInHanded {} Tryd.checked os 6 .any (fun w args => (Rows.intentOneSpec.pre enc Tryd.prog Tryd.f6 [] false w args ∧ laidMetH Tryd.prog laidList w) ∧ sizedMet enc Tryd.prog Tryd.f6 (OpenSpec.ofChange Rows.intentOneSpec) false w args)
      (Rows.intentOneSpec.post enc Tryd.prog Tryd.f6 false true false false) := by
  refine returnsInHanded_of_change_and (C := Tryd.checked) (X := fun w _ => laidMetH Tryd.prog laidList w) (fun _ _ _ hh h => h.of_heap hh) t_own started (by kernel_rfl) Tryd.func6
    (ChangeSpec.witness_shaped (enc := enc) (C := Tryd.checked) (os := os) (X := fun w _ => laidMetH Tryd.prog laidList w) false (laidWorld os) #[.string ⟨#[]⟩] 8 rfl (World.shaped_of_RefB (by kernel_rfl) (by kernel_rfl)) (by kernel_rfl) (by kernel_rfl) (by kernel_rfl) (laidWorld_met os _)) ?_
  intro W base args ds gs before hval0 hW _ _ hL _
  have hval : ∀ (j : Nat) t v, Tryd.f6.params[j]? = some t → args[j]? = some v → Value.okWide Tryd.prog W .any base t v := hval0
  have hW' := hW
  obtain ⟨p, q, hA0, hV0, rfl, hfz, hnd⟩ := hW
  have hA : DataW.TrodAll enc Tryd.prog W 0 (fun _ => true) true Tryd.f6.params.toList args.toList ds p := hA0
  rw [Tryd.params6] at hA hval
  obtain ⟨v0, vs0, d0, ds0, p0, q0, hargs, rfl, rfl, h0, r0_⟩ := trodAll_cons hA
  obtain ⟨rfl, rfl, rfl⟩ := trodAll_nil r0_
  obtain rfl : args = #[v0] := by cases args; simp_all
  obtain ⟨s, rfl, rfl, rfl, hs⟩ := Go.ChangeMaps.open_string Tryd.underlying9 (hval 0 9 v0 rfl rfl) h0
  refine (walk s W (gl_of_laid hL) hs).mono fun e W' ⟨he, hb⟩ => ?_
  subst he
  exact ⟨_, rfl, post_of_holds hW' (by kernel_rfl) rfl (by rw [Tryd.params6]; exact fun t ht => params_ok t (by simp at ht; subst ht; simp)) ⟨rfl, rfl, rfl⟩ hb⟩

theorem row_holds : Rows.IntentOneSaid :=
  OpenClaim.holds_of_wide 6 Tryd.f6 rfl rfl rfl rfl rfl rfl rfl ⟨rfl, rfl, rfl, rfl, rfl⟩ rfl rfl rfl rfl rfl (by kernel_rfl) Tryd.func6 (by kernel_rfl)
    (of_decide_eq_true (by kernel_rfl)) (by unfold Func.isWrapper; first | (rw [if_pos (by decide +kernel)]; kernel_rfl) | (rw [if_neg (by decide +kernel)]; exact ⟨rfl, rfl⟩))
    (fun os started H enc _ => lifted os started H enc)

/-- The given statement. -/
theorem proved : Rows.IntentOneCardSaid :=
  Claim7.holds_tied_plain_at .later [] [.data] true (true, "365df40b4b06091b173e89a3fcd023001c63cb50760d75e96657b72a7a900189") false
    row_holds (fun _ h => by cases h) (by kernel_rfl) (fun _ h => by cases h) intentOne_row_tie rfl ⟨rfl, rfl⟩ (by kernel_rfl) rfl
    (fun f fn hf hfn => by
      obtain rfl : f = 6 := Option.some.inj ((show Tryd.prog.funcNamed "switchback/switchbacklaw09.IntentOne" = some 6 by kernel_rfl).symm.trans hf) |>.symm
      obtain rfl : fn = Tryd.f6 := (Option.some.inj (Tryd.func6.symm.trans hfn)).symm
      exact ⟨by kernel_rfl, fun j t ht => by
        rw [Tryd.params6] at ht
        have ht' : t ∈ [9] := by
          have := Array.mem_of_getElem? ht
          simpa using this
        exact params_plain t (by simp at ht'; subst ht'; simp)⟩)
    (by kernel_rfl)
#print axioms proved
end Go.Proofs.YthombepmlepgfaaDoor.intentOne
