/-
  For every list of ints and every int the law FaultJoins returns true, and the arguments read as before; errors.errorType is as the program's text lays it (the card ties it). No condition beside the row's own.
-/
import Derived.Test.YtfpbilhangdccaaDoorJoin
import Derived.Deep.RegionWith
namespace Go.Proofs.YtfpbilhangdccaaDoor.faultJoins
open Go.Proofs.YtfpbilhangdccaaDoor
open Go.ChangeShapes Go.WideShapes Go.ChangeAt Go.RowKit
set_option linter.unusedVariables false

set_option maxHeartbeats 1000000 in
theorem walk_long (t : Int) (A : Option Addr) (len c : Nat) (w : World) (hg : Gl w) (hm : len ≤ maxLen) (hl : 50 < len) : Calls Tryd.prog 7 #[.slice A len c, .int .i64 t] w (Holds w) := by
  have HG := Lib.hid hg
  clear hg
  unfold maxLen at hm
  go_enter Tryd.func7, Tryd.ntmps7
  go_wp2_with fail
  refine (awake_yes _ HG.out).mono ?_
  rintro e w1 ⟨rfl, hb1⟩
  go_wp2_with fail
  refine (awake_yes _ (HG.out.under hb1)).mono ?_
  rintro e w2 ⟨rfl, hb2⟩
  go_wp2
  go_ret
  exact ⟨rfl, hb1.trans (hb2.mono hb1.size)⟩

set_option maxHeartbeats 1000000 in
theorem walk_neg (t : Int) (A : Option Addr) (len c : Nat) (w : World) (hg : Gl w) (hl : len ≤ 50) (ht : t < 0) : Calls Tryd.prog 7 #[.slice A len c, .int .i64 t] w (Holds w) := by
  have HG := Lib.hid hg
  clear hg
  go_enter Tryd.func7, Tryd.ntmps7
  go_wp2_with fail
  refine (awake_yes _ HG.out).mono ?_
  rintro e w1 ⟨rfl, hb1⟩
  go_wp2_with fail
  refine (awake_yes _ (HG.out.under hb1)).mono ?_
  rintro e w2 ⟨rfl, hb2⟩
  go_wp2
  go_ret
  exact ⟨rfl, hb1.trans (hb2.mono hb1.size)⟩

set_option maxHeartbeats 1000000 in
theorem walk_far (t : Int) (A : Option Addr) (len c : Nat) (w : World) (hg : Gl w) (hl : len ≤ 50) (h0 : 0 ≤ t) (ht : (len : Int) < t) : Calls Tryd.prog 7 #[.slice A len c, .int .i64 t] w (Holds w) := by
  have HG := Lib.hid hg
  clear hg
  go_enter Tryd.func7, Tryd.ntmps7
  go_wp2_with fail
  refine (awake_yes _ HG.out).mono ?_
  rintro e w1 ⟨rfl, hb1⟩
  go_wp2_with fail
  refine (awake_yes _ (HG.out.under hb1)).mono ?_
  rintro e w2 ⟨rfl, hb2⟩
  go_wp2
  go_ret
  exact ⟨rfl, hb1.trans (hb2.mono hb1.size)⟩

def X : ByteArray := ⟨#[120]⟩

set_option maxRecDepth 100000 in
set_option maxHeartbeats 2000000 in
theorem walk_empty (A : Option Addr) (c : Nat) (w : World) (hg : Gl w) : Calls Tryd.prog 7 #[.slice A 0 c, .int .i64 0] w (Holds w) := by
  have HG := Lib.hid hg
  clear hg
  go_enter Tryd.func7, Tryd.ntmps7
  go_wp2_with fail
  refine (awake_yes _ HG.out).mono ?_
  rintro e w1 ⟨rfl, hb1⟩
  go_wp2
  refine wp_loop_rounds 1 ?_
  rw [rounds_succ]
  have HVn : Hid (Vals w1 (.slice none 0 0) []) := Lib.hid (.inl ⟨⟨_, _, rfl⟩, rfl⟩)
  go_wp2_with fail
  go_region_with (first
    | (go_at_call_of 16 (Value.slice none 0 0); refine (join_is [] .nilIface _ _ (by simp) (by exact HVn.out) (fun _ h => by cases h) rfl).mono ?_; rintro e w' ⟨rfl, rfl⟩)
    | (go_at_call_of 16 (Value.slice (some ⟨w1.heap.size, 0, none⟩) 2 2); refine (join_is [_, _] .nilIface _ _ (by simp) (by exact lit2 _ _ _ _) (allErr_two (.inl rfl) (.inl rfl)) rfl).mono ?_; rintro e w' ⟨rfl, rfl⟩)
    | (go_at_call 11; refine (code_nil _).mono ?_; rintro e w' ⟨rfl, rfl⟩))
  all_goals go_wp2
  all_goals go_ret
  all_goals exact ⟨rfl, (hb1.drew.alloc hb1.size _)⟩

set_option maxRecDepth 100000 in
set_option maxHeartbeats 2000000 in
theorem walk_main (j : Nat) (A : Option Addr) (c : Nat) (zs : List Int) (w : World) (hg : Gl w) (hl : zs.length ≤ 50) (hp : 0 < zs.length) (hj : j ≤ zs.length) (hv : Vals w (.slice A zs.length c) (ints zs)) :
    Calls Tryd.prog 7 #[.slice A zs.length c, .int .i64 j] w (Holds w) := by
  obtain ⟨i0, hi, hz0, hz1, hz2⟩ := info_parts Tinfo25
  have HG := Lib.hid hg
  have HV := Lib.hid hv
  have HJ := Lib.hid hj
  have d1 : decide ((50 : Int) < (zs.length : Int)) = false := by simp; omega
  have d2 : decide ((j : Int) < 0) = false := by simp
  have d3 : decide (zs.length < j) = false := by simp; omega
  clear hg hv
  go_enter Tryd.func7, Tryd.ntmps7
  go_wp2_with fail
  refine (awake_yes _ HG.out).mono ?_
  rintro e w1 ⟨rfl, hb1⟩
  have hsz1 := hb1.size
  go_wp2
  go_loopg [5, 28] zs.length (fun g l i wr => ∃ (k : Nat) (vs : List Value), Hid (g = zs.length - k) ∧ k ≤ zs.length ∧ i = .int .i64 k ∧ Hid (ErrsOf wr X (zs.take k) vs) ∧ wr.ownsRow w.heap.size 25 1 l vs.length vs ∧ Below w.heap.size w wr)
  case atStart => exact ⟨0, [], Lib.hid rfl, Nat.zero_le _, rfl, Lib.hid .nil, World.ownsRow_nil _ _ _ _, hb1⟩
  case round =>
    obtain ⟨k, vs, HK, hk, rfl, HE, hown, hbl⟩ := hrel
    have hsz := hbl.size
    have hvl : vs.length ≤ 50 := by rw [HE.out.len]; simp; omega
    by_cases hlt : k < zs.length
    · obtain ⟨b, off, c', hv', hcc, hb, hcell⟩ := HV.out.full (by rw [ints_len]; omega)
      obtain rfl : A = some ⟨b, off, none⟩ := by injection hv'
      have cj : wr.cell? ⟨b, off + k, none⟩ = some (.int .i64 zs[k]) := (hbl.cell (p := ⟨b, off + k, none⟩) hb).trans (hcell k _ (ints_at zs k hlt))
      clear hv' hcc hcell
      go_wp2_with fail
      refine (new_any _ X _).mono ?_
      rintro e w3 ⟨v3, rfl, he3, hb3'⟩
      rcases he3.form with rfl | ⟨T3, p3, rfl⟩
      all_goals
        have HE3 := Lib.hid he3
        have HA3 := Lib.hid (HE.out.under hb3')
        have hb3 : Below w.heap.size w w3 := hbl.trans (hb3'.mono hsz)
        have hown3 := own_under hown hb3'
        have hsz3 := hb3.size
        clear he3 hb3' hown
        go_wp2_with (at_builtin; refine wpList_append_own _ rfl _ _ 37 rfl w.heap.size 25 i0 .nilIface 1 16 Tryd.underlying37 hi hz0 hz1 hz2 rfl (by decide) _ _ _ rfl (hown3.alloc _) ⟨w3.heap.size, 0, none⟩ 1 1 [_] rfl rfl (cell_one_new _ _ _) HE3.out.one (by unfold maxLen; omega) (by omega) (by simp; omega) ?_; intro v' w4 hown' hgr hnil)
        go_roundg (zs.length - (k + 1))
        case measure => have := HK.out; omega
        case rel =>
          refine ⟨k + 1, _, Lib.hid rfl, by omega, by go_num, Lib.hid ?_, own_len hown', (hb3.alloc hsz3 _).grown hgr (by simp; omega) (fun k hk => (hown3.lt k hk).1)⟩
          rw [take_ints zs k hlt]
          exact ((HA3.out.under ((Below.refl _ _).alloc (Nat.le_refl _) _)).grown hgr (own_type (hown3.alloc _) (by decide) (by decide))).snoc ((HE3.out.under ((Below.refl _ _).alloc (Nat.le_refl _) _)).grown hgr (own_type (hown3.alloc _) (by decide) (by decide)))
    · obtain rfl : k = zs.length := by omega
      have HE := Lib.hid (show ErrsOf wr X zs vs by have := HE.out; rwa [List.take_length] at this)
      have HL := Lib.hid HE.out.len
      have hjv : j ≤ vs.length := by rw [HL.out]; exact HJ.out
      have HX := Lib.hid HE.out.all
      have HQ := Lib.hid HE.out.first
      have HV0 := Lib.hid (Vals.of_own hown)
      have H2 := Lib.hid (show firstErr [firstErr (vs.take j), firstErr (vs.drop j)] = firstErr vs by rw [firstErr_two (HX.out.take j), List.take_append_drop])
      obtain ⟨a, ea⟩ : ∃ a, firstErr (vs.take j) = a := ⟨_, rfl⟩
      obtain ⟨b, eb⟩ : ∃ b, firstErr (vs.drop j) = b := ⟨_, rfl⟩
      obtain ⟨f, ef⟩ : ∃ f, firstErr vs = f := ⟨_, rfl⟩
      have fa := (HX.out.take j).first
      have fb := (HX.out.drop j).first
      rw [ea] at fa
      rw [eb] at fb
      have HQ := Lib.hid (show ErrOf wr X (firstNZ zs) f by have := HQ.out; rwa [ef] at this)
      have H2 := Lib.hid (show firstErr [a, b] = f by have := H2.out; rwa [ea, eb, ef] at this)
      have HAB := Lib.hid (allErr_two fa fb)
      have EA := Lib.hid ea
      have EB := Lib.hid eb
      have EF := Lib.hid ef
      clear HV hlt hk HK HJ hj ea eb ef d1 d2 d3 HE
      have hvp : 0 < vs.length := by rw [HL.out]; exact hp
      rcases hown.2 with ⟨rfl, hn0⟩ | ⟨g, cap, cur, rfl, hbase, hh, hnc, hcm, hcs, hct⟩
      · omega
      · unfold maxLen at hcm
        have HV1 := Lib.hid (HV0.out.take j hjv hvp)
        clear hh hcs hct
        by_cases hcj : cap = j
        · obtain rfl : j = vs.length := by omega
          subst hcj
          have eaf : a = f := by rw [← EA.out, ← EF.out, List.take_length]
          have ebn : b = .nilIface := by rw [← EB.out, List.drop_length]; rfl
          subst eaf ebn
          have HVn : Hid (Vals wr (.slice (some ⟨g, 0, none⟩) 0 0) []) := Lib.hid (.inl ⟨⟨_, _, rfl⟩, rfl⟩)
          have hj0 : (0 : Int) ≤ (vs.length : Int) := by omega
          clear fb HV1 hjv hnc
          rcases fa with rfl | ⟨Ta, pa, rfl⟩
          all_goals
            go_wp2_with fail
            go_region_with (first
              | (go_at_call_of 16 (Value.slice (some ⟨g, 0, none⟩) vs.length vs.length); refine (join_is vs _ _ _ (by omega) (by first | exact HV0.out.under hbc | exact HV0.out) HX.out EF.out).mono ?_; rintro e w' ⟨rfl, rfl⟩)
              | (go_at_call_of 16 (Value.slice (some ⟨g, 0, none⟩) 0 0); refine (join_is [] .nilIface _ _ (by simp) (by exact HVn.out.under hbc) (fun _ h => by cases h) rfl).mono ?_; rintro e w' ⟨rfl, rfl⟩)
              | (go_at_call_of 16 (Value.slice (some ⟨w1.heap.size, 0, none⟩) 2 2); refine (join_is [_, _] _ _ _ (by simp) (by exact lit2 _ _ _ _) HAB.out H2.out).mono ?_; rintro e w' ⟨rfl, rfl⟩)
              | (go_at_call 11; refine (code_any X (firstNZ zs) _ _ (by first | exact (HG.out.under hbl).under (hbc.alloc hbc.size _) | exact (HG.out.under hbl).under (Below.refl _ _).drew) (by first | exact HQ.out.under (hbc.alloc hbc.size _) | exact HQ.out.under (Below.refl _ _).drew)).mono ?_; rintro e w1 ⟨rfl, hb0⟩; have hbc : Below wr.heap.size wr w1 := (by first | exact (hbc.alloc hbc.size _).trans (hb0.mono (by have := hbc.size; simp; omega)) | exact (Below.refl _ _).drew.trans hb0)))
            all_goals go_wp2
            all_goals go_ret
            all_goals exact ⟨rfl, hbl.trans (hbc.mono hsz)⟩
        · have HV2 : Hid (Vals wr (.slice (some ⟨g, j, none⟩) (vs.length - j) (cap - j)) (vs.drop j)) := Lib.hid (by have := HV0.out.drop j hjv hvp; rwa [Nat.zero_add] at this)
          have hjc : j ≤ cap := by omega
          have hj0 : (0 : Int) ≤ (j : Int) := by omega
          have hjc' : (j : Int) ≤ (cap : Int) := by omega
          have hjv' : (j : Int) ≤ (vs.length : Int) := by omega
          have hnc' : (vs.length : Int) ≤ (cap : Int) := by omega
          rcases fa with rfl | ⟨Ta, pa, rfl⟩
          all_goals rcases fb with rfl | ⟨Tb, pb, rfl⟩
          all_goals
            go_wp2_with fail
            go_region_with (first
              | (go_at_call_of 16 (Value.slice (some ⟨g, 0, none⟩) vs.length cap); refine (join_is vs f _ _ (by omega) (by exact HV0.out) HX.out EF.out).mono ?_; rintro e w' ⟨rfl, rfl⟩)
              | (go_at_call_of 16 (Value.slice (some ⟨g, 0, none⟩) j cap); refine (join_is (vs.take j) _ _ _ (by simp; omega) (by exact HV1.out.under hbc) (HX.out.take j) EA.out).mono ?_; rintro e w' ⟨rfl, rfl⟩)
              | (go_at_call_of 16 (Value.slice (some ⟨g, j, none⟩) (vs.length - j) (cap - j)); refine (join_is (vs.drop j) _ _ _ (by simp; omega) (by exact HV2.out.under hbc) (HX.out.drop j) EB.out).mono ?_; rintro e w' ⟨rfl, rfl⟩)
              | (go_at_call_of 16 (Value.slice (some ⟨w1.heap.size, 0, none⟩) 2 2); refine (join_is [_, _] f _ _ (by simp) (by exact lit2 _ _ _ _) HAB.out H2.out).mono ?_; rintro e w' ⟨rfl, rfl⟩)
              | (go_at_call 11; refine (code_any X (firstNZ zs) f _ (by first | exact (HG.out.under hbl).under (hbc.alloc hbc.size _) | exact (HG.out.under hbl).under (Below.refl _ _).drew) (by first | exact HQ.out.under (hbc.alloc hbc.size _) | exact HQ.out.under (Below.refl _ _).drew)).mono ?_; rintro e w1 ⟨rfl, hb0⟩; have hbc : Below wr.heap.size wr w1 := (by first | exact (hbc.alloc hbc.size _).trans (hb0.mono (by have := hbc.size; simp; omega)) | exact (Below.refl _ _).drew.trans hb0)))
            all_goals go_wp2
            all_goals go_ret
            all_goals exact ⟨rfl, hbl.trans (hbc.mono hsz)⟩

theorem walk (t : Int) (v : Value) (A : Option Addr) (c : Nat) (zs : List Int) (w : World) (hg : Gl w) (hv : v = .slice A zs.length c) (hm : zs.length ≤ maxLen) (hV : Vals w v (ints zs)) :
    Calls Tryd.prog 7 #[v, .int .i64 t] w (Holds w) := by
  subst hv
  by_cases h1 : 50 < zs.length
  · exact walk_long t A _ c w hg hm h1
  · by_cases h2 : t < 0
    · exact walk_neg t A _ c w hg (by omega) h2
    · by_cases h3 : (zs.length : Int) < t
      · exact walk_far t A _ c w hg (by omega) (by omega) h3
      · obtain ⟨j, rfl⟩ : ∃ j : Nat, t = (j : Int) := ⟨t.toNat, by omega⟩
        by_cases h4 : zs.length = 0
        · obtain rfl : zs = [] := List.eq_nil_of_length_eq_zero h4
          obtain rfl : j = 0 := by simp at h3; omega
          exact walk_empty A c w hg
        · exact walk_main j A c zs w hg (by omega) (by omega) (by omega) hV

/-! From the walk to the given row and card. -/
set_option maxRecDepth 100000 in
theorem lifted (os : Os) (started : os.Started) (H : Type) (enc : TypeId × Value → H) :
    ReturnsInHanded {} Tryd.checked os 7 .any (fun w args => (Rows.faultJoinsSpec.pre enc Tryd.prog Tryd.f7 [] false w args ∧ laidMetH Tryd.prog laidList w) ∧ sizedMet enc Tryd.prog Tryd.f7 (OpenSpec.ofChange Rows.faultJoinsSpec) false w args)
      (Rows.faultJoinsSpec.post enc Tryd.prog Tryd.f7 false true false false) := by
  refine returnsInHanded_of_change_and (C := Tryd.checked) (X := fun w _ => laidMetH Tryd.prog laidList w) (fun _ _ _ hh h => h.of_heap hh) t_own started (by kernel_rfl) Tryd.func7
    (ChangeSpec.witness_at (enc := enc) (C := Tryd.checked) (os := os) (X := fun w _ => laidMetH Tryd.prog laidList w) false (laidWorld os) #[.slice none 0 0, .int .i64 0] 8 rfl (by kernel_rfl) (by kernel_rfl) (by kernel_rfl) (by kernel_rfl) (by kernel_rfl) (laidWorld_met os _)) ?_
  intro W base args ds gs before hval0 hW _ _ hL _
  have hval : ∀ (j : Nat) t v, Tryd.f7.params[j]? = some t → args[j]? = some v → Value.okWide Tryd.prog W .any base t v := hval0
  have hW' := hW
  obtain ⟨p, q, hA0, hV0, rfl, hfz, hnd⟩ := hW
  have hA : DataW.TrodAll enc Tryd.prog W 0 (fun _ => true) true Tryd.f7.params.toList args.toList ds p := hA0
  rw [Tryd.params7] at hA hval
  obtain ⟨v0, vs0, d0, ds0, p0, q0, hargs, rfl, rfl, h0, r0⟩ := trodAll_cons hA
  obtain ⟨v1, vs1, d1, ds1, p1, q1, rfl, rfl, rfl, h1, r1⟩ := trodAll_cons r0
  obtain ⟨rfl, rfl, rfl⟩ := trodAll_nil r1
  obtain rfl : args = #[v0, v1] := by cases args; simp_all
  obtain ⟨A, c, zs, hv, hm, hV⟩ := open_nums (hval 0 36 v0 rfl rfl) h0
  obtain ⟨a1, rfl, rfl, rfl, w1⟩ := open_int Tryd.underlying3 (hval 1 3 v1 rfl rfl) h1
  refine (walk a1 v0 A c zs W (gl_of_laid hL) hv hm hV).mono fun e W' ⟨he, hb⟩ => ?_
  subst he
  exact ⟨_, rfl, post_of_holds hW' (by kernel_rfl) rfl (by rw [Tryd.params7]; exact fun t ht => params_ok t (by simp at ht; rcases ht with rfl | rfl <;> simp)) ⟨rfl, rfl, rfl⟩ hb⟩

theorem row_holds : Rows.FaultJoinsSaid :=
  OpenClaim.holds_of_wide 7 Tryd.f7 rfl rfl rfl rfl rfl rfl rfl ⟨rfl, rfl, rfl, rfl, rfl⟩ rfl rfl rfl rfl rfl (by kernel_rfl) Tryd.func7 (by kernel_rfl)
    (of_decide_eq_true (by kernel_rfl)) (by unfold Func.isWrapper; rw [if_neg (of_decide_eq_false (by kernel_rfl))]; exact ⟨rfl, rfl⟩)
    (fun os started H enc _ => lifted os started H enc)

/-- The given statement. -/
theorem proved : Rows.FaultJoinsCardSaid :=
  Claim7.holds_tied_plain_at .later [] [.handle] true (true, "49ccd34de63943d0caefc2dafc0495ec9455355acaa0e9f8f0a6ddb58e09088f") true
    row_holds (fun _ h => by cases h) (by kernel_rfl) (fun _ h => by cases h) faultJoins_row_tie rfl ⟨rfl, rfl⟩ (by kernel_rfl) rfl
    (fun f fn hf hfn => by
      obtain rfl : f = 7 := Option.some.inj ((show Tryd.prog.funcNamed "switchback/switchbacklaw02.FaultJoins" = some 7 by kernel_rfl).symm.trans hf) |>.symm
      obtain rfl : fn = Tryd.f7 := (Option.some.inj (Tryd.func7.symm.trans hfn)).symm
      exact ⟨by kernel_rfl, fun j t ht => by
        rw [Tryd.params7] at ht
        have ht' : t ∈ [36, 3] := by
          have := Array.mem_of_getElem? ht
          simpa using this
        exact params_plain t (by simp at ht'; rcases ht' with rfl | rfl <;> simp)⟩)
    (by kernel_rfl)
#print axioms proved
end Go.Proofs.YtfpbilhangdccaaDoor.faultJoins
