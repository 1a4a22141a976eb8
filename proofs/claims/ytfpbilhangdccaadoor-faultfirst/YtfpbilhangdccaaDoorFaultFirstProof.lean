/-
  For every list of ints and every string the law FaultFirst returns true, and the arguments read as before; errors.errorType is as the program's text lays it (the card ties it). No condition beside the row's own.
-/
import Derived.Test.YtfpbilhangdccaaDoorJoin
namespace Go.Proofs.YtfpbilhangdccaaDoor.faultFirst
open Go.Proofs.YtfpbilhangdccaaDoor
open Go.ChangeShapes Go.WideShapes Go.ChangeAt Go.RowKit
set_option linter.unusedVariables false

set_option maxHeartbeats 1000000 in
theorem walk_long (s : ByteArray) (A : Option Addr) (len c : Nat) (w : World) (hg : Gl w) (hm : len ≤ maxLen) (hl : 50 < len) : Calls Tryd.prog 5 #[.slice A len c, .string s] w (Holds w) := by
  have HG := Lib.hid hg
  clear hg
  unfold maxLen at hm
  go_enter Tryd.func5, Tryd.ntmps5
  go_wp2_with fail
  refine (awake_yes _ HG.out).mono ?_
  rintro e w1 ⟨rfl, hb1⟩
  go_wp2_with fail
  refine (awake_yes _ (HG.out.under hb1)).mono ?_
  rintro e w2 ⟨rfl, hb2⟩
  go_wp2
  go_ret
  exact ⟨rfl, hb1.trans (hb2.mono hb1.size)⟩

set_option maxHeartbeats 1000000 in
theorem walk_long2 (s : ByteArray) (A : Option Addr) (len c : Nat) (w : World) (hg : Gl w) (hl : len ≤ 50) (hm : s.size ≤ maxLen) (hs : 100 < s.size) : Calls Tryd.prog 5 #[.slice A len c, .string s] w (Holds w) := by
  have HG := Lib.hid hg
  clear hg
  unfold maxLen at hm
  go_enter Tryd.func5, Tryd.ntmps5
  go_wp2_with fail
  refine (awake_yes _ HG.out).mono ?_
  rintro e w1 ⟨rfl, hb1⟩
  go_wp2_with fail
  refine (awake_yes _ (HG.out.under hb1)).mono ?_
  rintro e w2 ⟨rfl, hb2⟩
  go_wp2
  go_ret
  exact ⟨rfl, hb1.trans (hb2.mono hb1.size)⟩

set_option maxHeartbeats 2000000 in
theorem walk_main (s : ByteArray) (A : Option Addr) (c : Nat) (zs : List Int) (w : World) (hg : Gl w) (hl : zs.length ≤ 50) (hs : s.size ≤ 100) (hv : Vals w (.slice A zs.length c) (ints zs)) :
    Calls Tryd.prog 5 #[.slice A zs.length c, .string s] w (Holds w) := by
  obtain ⟨i0, hi, hz0, hz1, hz2⟩ := info_parts Tinfo25
  have HG := Lib.hid hg
  have HV := Lib.hid hv
  clear hg hv
  go_enter Tryd.func5, Tryd.ntmps5
  go_wp2_with fail
  refine (awake_yes _ HG.out).mono ?_
  rintro e w1 ⟨rfl, hb1⟩
  have hsz1 := hb1.size
  go_wp2
  go_loopg [5, 6, 25] zs.length (fun g l q i wr => ∃ (k : Nat) (vs : List Value) (m : Int), Hid (g = zs.length - k) ∧ k ≤ zs.length ∧ i = .int .i64 k ∧ q = .int .i64 m ∧ Hid (m = firstNZ (zs.take k)) ∧ Hid (ErrsOf wr s (zs.take k) vs) ∧ wr.ownsRow w.heap.size 25 1 l vs.length vs ∧ Below w.heap.size w wr)
  case atStart => exact ⟨0, [], 0, Lib.hid rfl, Nat.zero_le _, rfl, rfl, Lib.hid rfl, Lib.hid .nil, World.ownsRow_nil _ _ _ _, hb1⟩
  case round =>
    obtain ⟨k, vs, m, HK, hk, rfl, rfl, HM, HE, hown, hbl⟩ := hrel
    have hsz := hbl.size
    have hvl : vs.length ≤ 50 := by rw [HE.out.len]; simp; omega
    by_cases hlt : k < zs.length
    · obtain ⟨b, off, c', hv', hcc, hb, hcell⟩ := HV.out.full (by rw [ints_len]; omega)
      obtain rfl : A = some ⟨b, off, none⟩ := by injection hv'
      have cj : wr.cell? ⟨b, off + k, none⟩ = some (.int .i64 zs[k]) := (hbl.cell (p := ⟨b, off + k, none⟩) hb).trans (hcell k _ (ints_at zs k hlt))
      clear hv' hcc hcell
      go_wp2_with fail
      refine (new_any _ _ _).mono ?_
      rintro e w3 ⟨v3, rfl, he3, hb3'⟩
      rcases he3.form with rfl | ⟨T3, p3, rfl⟩
      all_goals
        have HE3 := Lib.hid he3
        have HA3 := Lib.hid (HE.out.under hb3')
        have hb3 : Below w.heap.size w w3 := hbl.trans (hb3'.mono hsz)
        have hown3 := own_under hown hb3'
        have hsz3 := hb3.size
        clear he3 hb3' hown
        have HS : Hid (firstNZ (zs.take (k + 1)) = if m = 0 then zs[k] else m) := by rw [take_ints zs k hlt, firstNZ_snoc, ← HM.out]; exact Lib.hid rfl
        by_cases hm0 : m = 0
        · subst hm0
          go_wp2_with (at_builtin; refine wpList_append_own _ rfl _ _ 37 rfl w.heap.size 25 i0 .nilIface 1 16 Tryd.underlying37 hi hz0 hz1 hz2 rfl (by decide) _ _ _ rfl (hown3.alloc _) ⟨w3.heap.size, 0, none⟩ 1 1 [_] rfl rfl (cell_one_new _ _ _) HE3.out.one (by unfold maxLen; omega) (by omega) (by simp; omega) ?_; intro v' w4 hown' hgr hnil)
          go_roundg (zs.length - (k + 1))
          case measure => have := HK.out; omega
          case rel =>
            refine ⟨k + 1, _, zs[k], Lib.hid rfl, by omega, by go_num, rfl, Lib.hid (by rw [HS.out]; simp), Lib.hid ?_, own_len hown', (hb3.alloc hsz3 _).grown hgr (by simp; omega) (fun k hk => (hown3.lt k hk).1)⟩
            rw [take_ints zs k hlt]
            exact ((HA3.out.under ((Below.refl _ _).alloc (Nat.le_refl _) _)).grown hgr (own_type (hown3.alloc _) (by decide) (by decide))).snoc ((HE3.out.under ((Below.refl _ _).alloc (Nat.le_refl _) _)).grown hgr (own_type (hown3.alloc _) (by decide) (by decide)))
        · have hmb : (m == 0) = false := by simpa using hm0
          clear hm0
          go_wp2_with (at_builtin; refine wpList_append_own _ rfl _ _ 37 rfl w.heap.size 25 i0 .nilIface 1 16 Tryd.underlying37 hi hz0 hz1 hz2 rfl (by decide) _ _ _ rfl (hown3.alloc _) ⟨w3.heap.size, 0, none⟩ 1 1 [_] rfl rfl (cell_one_new _ _ _) HE3.out.one (by unfold maxLen; omega) (by omega) (by simp; omega) ?_; intro v' w4 hown' hgr hnil)
          go_roundg (zs.length - (k + 1))
          case measure => have := HK.out; omega
          case rel =>
            refine ⟨k + 1, _, m, Lib.hid rfl, by omega, by go_num, rfl, Lib.hid (by rw [HS.out, if_neg (by simpa using hmb)]), Lib.hid ?_, own_len hown', (hb3.alloc hsz3 _).grown hgr (by simp; omega) (fun k hk => (hown3.lt k hk).1)⟩
            rw [take_ints zs k hlt]
            exact ((HA3.out.under ((Below.refl _ _).alloc (Nat.le_refl _) _)).grown hgr (own_type (hown3.alloc _) (by decide) (by decide))).snoc ((HE3.out.under ((Below.refl _ _).alloc (Nat.le_refl _) _)).grown hgr (own_type (hown3.alloc _) (by decide) (by decide)))
    · obtain rfl : k = zs.length := by omega
      have HF := Lib.hid (show ErrOf wr s m (firstErr vs) by have := HE.out.first; rwa [← HM.out] at this)
      have HO := Lib.hid (Vals.of_own hown)
      generalize hfe : firstErr vs = f at HF
      have HFE := Lib.hid hfe
      clear hown HV hlt hk HK HM hfe
      by_cases hm0 : m = 0
      · subst hm0
        have hf : f = .nilIface := by
          rcases HF.out with ⟨_, h⟩ | ⟨h, _⟩
          · exact h
          · exact absurd rfl h
        subst hf
        go_wp2_with fail
        refine (join_any vs _ _ (by omega) HO.out HE.out.all).mono ?_
        rintro e w3 ⟨rfl, rfl⟩
        rw [HFE.out]
        go_wp2
        go_ret
        exact ⟨rfl, hbl⟩
      · have hmb : (m == 0) = false := by simpa using hm0
        obtain ⟨o, hc⟩ : ∃ o, Chn wr o m [s] f := by
          rcases HF.out with ⟨h, _⟩ | ⟨_, h⟩
          · exact absurd h hm0
          · exact h
        obtain ⟨T, p, rfl, _⟩ := hc.form
        have HC := Lib.hid hc
        clear hm0 hc HF
        go_wp2_with fail
        refine (join_any vs _ _ (by omega) HO.out HE.out.all).mono ?_
        rintro e w3 ⟨rfl, rfl⟩
        rw [HFE.out]
        go_wp2_with fail
        refine (code_err o m _ _ _ (HG.out.under hbl) HC.out).mono ?_
        rintro e w4 ⟨rfl, hb⟩
        have HC := Lib.hid (HC.out.under hb)
        have hb4 : Below w.heap.size w w4 := hbl.trans (hb.mono hbl.size)
        clear hb hbl
        go_wp2_with fail
        refine (places_err o m _ _ _ (by simp) (HG.out.under hb4) HC.out).mono ?_
        rintro e w5 ⟨lv, rfl, hpv, hb⟩
        have HP := Lib.hid hpv
        have hb5 : Below w.heap.size w w5 := hb4.trans (hb.mono hb4.size)
        clear hb hb4 hpv
        go_wp2_with fail
        refine (same_yes [_] _ _ _ (by simp) (HP.out.under ((Below.refl _ _).alloc (Nat.le_refl _) _)) (lit1 _ _ _)).mono ?_
        rintro e w6 ⟨rfl, hb⟩
        have hb6 : Below w.heap.size w w6 := (hb5.alloc hb5.size _).trans (hb.mono (by have := hb5.size; simp; omega))
        clear hb hb5
        go_wp2
        go_ret
        exact ⟨rfl, hb6⟩

theorem walk (s : ByteArray) (v : Value) (A : Option Addr) (c : Nat) (zs : List Int) (w : World) (hg : Gl w) (hs : s.size ≤ maxLen) (hv : v = .slice A zs.length c) (hm : zs.length ≤ maxLen) (hV : Vals w v (ints zs)) :
    Calls Tryd.prog 5 #[v, .string s] w (Holds w) := by
  subst hv
  by_cases h1 : 50 < zs.length
  · exact walk_long s A _ c w hg hm h1
  · by_cases h2 : 100 < s.size
    · exact walk_long2 s A _ c w hg (by omega) hs h2
    · exact walk_main s A c zs w hg (by omega) (by omega) hV

/-! From the walk to the given row and card. -/
set_option maxRecDepth 100000 in
theorem lifted (os : Os) (started : os.Started) (H : Type) (enc : TypeId × Value → H) :
    ReturnsInHanded {} Tryd.checked os 5 .any (fun w args => (Rows.faultFirstSpec.pre enc Tryd.prog Tryd.f5 [] false w args ∧ laidMetH Tryd.prog laidList w) ∧ sizedMet enc Tryd.prog Tryd.f5 (OpenSpec.ofChange Rows.faultFirstSpec) false w args)
      (Rows.faultFirstSpec.post enc Tryd.prog Tryd.f5 false true false false) := by
  refine returnsInHanded_of_change_and (C := Tryd.checked) (X := fun w _ => laidMetH Tryd.prog laidList w) (fun _ _ _ hh h => h.of_heap hh) t_own started (by kernel_rfl) Tryd.func5
    (ChangeSpec.witness_at (enc := enc) (C := Tryd.checked) (os := os) (X := fun w _ => laidMetH Tryd.prog laidList w) false (laidWorld os) #[.slice none 0 0, .string ⟨#[]⟩] 8 rfl (by kernel_rfl) (by kernel_rfl) (by kernel_rfl) (by kernel_rfl) (by kernel_rfl) (laidWorld_met os _)) ?_
  intro W base args ds gs before hval0 hW _ _ hL _
  have hval : ∀ (j : Nat) t v, Tryd.f5.params[j]? = some t → args[j]? = some v → Value.okWide Tryd.prog W .any base t v := hval0
  have hW' := hW
  obtain ⟨p, q, hA0, hV0, rfl, hfz, hnd⟩ := hW
  have hA : DataW.TrodAll enc Tryd.prog W 0 (fun _ => true) true Tryd.f5.params.toList args.toList ds p := hA0
  rw [Tryd.params5] at hA hval
  obtain ⟨v0, vs0, d0, ds0, p0, q0, hargs, rfl, rfl, h0, r0⟩ := trodAll_cons hA
  obtain ⟨v1, vs1, d1, ds1, p1, q1, rfl, rfl, rfl, h1, r1⟩ := trodAll_cons r0
  obtain ⟨rfl, rfl, rfl⟩ := trodAll_nil r1
  obtain rfl : args = #[v0, v1] := by cases args; simp_all
  obtain ⟨A, c, zs, hv, hm, hV⟩ := open_nums (hval 0 36 v0 rfl rfl) h0
  obtain ⟨s, rfl, rfl, rfl, hs⟩ := Go.ChangeMaps.open_string Tryd.underlying9 (hval 1 9 v1 rfl rfl) h1
  refine (walk s v0 A c zs W (gl_of_laid hL) hs hv hm hV).mono fun e W' ⟨he, hb⟩ => ?_
  subst he
  exact ⟨_, rfl, post_of_holds hW' (by kernel_rfl) rfl (by rw [Tryd.params5]; exact fun t ht => params_ok t (by simp at ht; rcases ht with rfl | rfl <;> simp)) ⟨rfl, rfl, rfl⟩ hb⟩

theorem row_holds : Rows.FaultFirstSaid :=
  OpenClaim.holds_of_wide 5 Tryd.f5 rfl rfl rfl rfl rfl rfl rfl ⟨rfl, rfl, rfl, rfl, rfl⟩ rfl rfl rfl rfl rfl (by kernel_rfl) Tryd.func5 (by kernel_rfl)
    (of_decide_eq_true (by kernel_rfl)) (by unfold Func.isWrapper; rw [if_neg (of_decide_eq_false (by kernel_rfl))]; exact ⟨rfl, rfl⟩)
    (fun os started H enc _ => lifted os started H enc)

/-- The given statement. -/
theorem proved : Rows.FaultFirstCardSaid :=
  Claim7.holds_tied_plain_at .later [] [.handle] true (true, "49ccd34de63943d0caefc2dafc0495ec9455355acaa0e9f8f0a6ddb58e09088f") true
    row_holds (fun _ h => by cases h) (by kernel_rfl) (fun _ h => by cases h) faultFirst_row_tie rfl ⟨rfl, rfl⟩ (by kernel_rfl) rfl
    (fun f fn hf hfn => by
      obtain rfl : f = 5 := Option.some.inj ((show Tryd.prog.funcNamed "switchback/switchbacklaw02.FaultFirst" = some 5 by kernel_rfl).symm.trans hf) |>.symm
      obtain rfl : fn = Tryd.f5 := (Option.some.inj (Tryd.func5.symm.trans hfn)).symm
      exact ⟨by kernel_rfl, fun j t ht => by
        rw [Tryd.params5] at ht
        have ht' : t ∈ [36, 9] := by
          have := Array.mem_of_getElem? ht
          simpa using this
        exact params_plain t (by simp at ht'; rcases ht' with rfl | rfl <;> simp)⟩)
    (by kernel_rfl)
#print axioms proved
end Go.Proofs.YtfpbilhangdccaaDoor.faultFirst
