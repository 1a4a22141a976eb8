/-
  For every int, every string and every list of strings the law FaultWraps returns true, and the arguments read as before; errors.errorType is as the program's text lays it (the card ties it). No condition beside the row's own.
-/
import Derived.Test.YtfpbilhangdccaaDoorLift
import Derived.Test.YtfpbilhangdccaaDoorOpen
namespace Go.Proofs.YtfpbilhangdccaaDoor.faultWraps
open Go.Proofs.YtfpbilhangdccaaDoor
open Go.ChangeShapes Go.WideShapes Go.ChangeAt Go.RowKit
set_option linter.unusedVariables false

set_option maxHeartbeats 1000000 in
theorem walk_long (n : Int) (s : ByteArray) (A : Option Addr) (len c : Nat) (w : World) (hg : Gl w) (hm : len ≤ maxLen) (hl : 100 < len) : Calls Tryd.prog 3 #[.int .i64 n, .string s, .slice A len c] w (Holds w) := by
  have HG := Lib.hid hg
  clear hg
  unfold maxLen at hm
  go_enter Tryd.func3, Tryd.ntmps3
  go_wp2_with fail
  refine (awake_yes _ HG.out).mono ?_
  rintro e w1 ⟨rfl, hb1⟩
  go_wp2_with fail
  refine (awake_yes _ (HG.out.under hb1)).mono ?_
  rintro e w2 ⟨rfl, hb2⟩
  go_wp2
  go_ret
  exact ⟨rfl, hb1.trans (hb2.mono hb1.size)⟩

set_option maxHeartbeats 1000000 in
theorem walk_long2 (n : Int) (s : ByteArray) (A : Option Addr) (len c : Nat) (w : World) (hg : Gl w) (hl : len ≤ 100) (hm : s.size ≤ maxLen) (hs : 100 < s.size) : Calls Tryd.prog 3 #[.int .i64 n, .string s, .slice A len c] w (Holds w) := by
  have HG := Lib.hid hg
  clear hg
  unfold maxLen at hm
  go_enter Tryd.func3, Tryd.ntmps3
  go_wp2_with fail
  refine (awake_yes _ HG.out).mono ?_
  rintro e w1 ⟨rfl, hb1⟩
  go_wp2_with fail
  refine (awake_yes _ (HG.out.under hb1)).mono ?_
  rintro e w2 ⟨rfl, hb2⟩
  go_wp2
  go_ret
  exact ⟨rfl, hb1.trans (hb2.mono hb1.size)⟩

theorem take_snoc (xs : List ByteArray) (k : Nat) (h : k < xs.length) : xs.take (k + 1) = xs.take k ++ [xs[k]] := by rw [List.take_succ_eq_append_getElem h]

set_option maxHeartbeats 2000000 in
theorem walk_err (n : Int) (s : ByteArray) (A : Option Addr) (c : Nat) (xs : List ByteArray) (w : World) (hg : Gl w) (hn : (n == 0) = false) (hl : xs.length ≤ 100) (hs : s.size ≤ 100) (hv : Vals w (.slice A xs.length c) (strs xs)) (hx : ∀ x ∈ xs, x.size ≤ maxLen) :
    Calls Tryd.prog 3 #[.int .i64 n, .string s, .slice A xs.length c] w (Holds w) := by
  obtain ⟨i0, hi, hz0, hz1, hz2⟩ := info_parts Tinfo9
  have HG := Lib.hid hg
  have HN := Lib.hid hn
  have HV := Lib.hid hv
  have HX := Lib.hid hx
  clear hg hv hx
  go_enter Tryd.func3, Tryd.ntmps3
  go_wp2_with fail
  refine (awake_yes _ HG.out).mono ?_
  rintro e w1 ⟨rfl, hb1⟩
  go_wp2_with fail
  refine (new_err n s _ HN.out).mono ?_
  rintro e w2 ⟨o1, v1, rfl, hc1, hb⟩
  have HC1 := Lib.hid hc1
  have hb2 : Below w.heap.size w w2 := hb1.trans (hb.mono hb1.size)
  have hsz2 := hb2.size
  clear hc1 hb hb1
  go_wp2
  go_loopg [7, 8, 31] xs.length (fun g x l i wr => ∃ k : Nat, Hid (g = xs.length - k) ∧ k ≤ xs.length ∧ i = .int .i64 k ∧ (∃ o, Hid (Chn wr o n ((xs.take k).reverse ++ [s]) x)) ∧ wr.ownsRow w.heap.size 9 1 l (strs (s :: xs.take k)).length (strs (s :: xs.take k)) ∧ Below w.heap.size w wr)
  case atStart =>
    refine ⟨0, Lib.hid rfl, Nat.zero_le _, rfl, ⟨o1, Lib.hid (HC1.out.under ((Below.refl _ _).alloc (Nat.le_refl _) _))⟩, ?_, hb2.alloc hsz2 _⟩
    exact World.ownsRow_lit w2 #[.string s] 1 hsz2 (by decide) rfl
  case round =>
    obtain ⟨k, HK, hk, rfl, ⟨o, HC⟩, hown, hbl⟩ := hrel
    have hsz := hbl.size
    obtain ⟨T, p, rfl, _⟩ := HC.out.form
    by_cases hlt : k < xs.length
    · obtain ⟨b, off, c', hv', hcc, hb, hcell⟩ := HV.out.full (by rw [strs_len]; omega)
      obtain rfl : A = some ⟨b, off, none⟩ := by injection hv'
      have cj : wr.cell? ⟨b, off + k, none⟩ = some (.string xs[k]) := (hbl.cell (p := ⟨b, off + k, none⟩) hb).trans (hcell k _ (strs_at xs k hlt))
      have hxm := HX.out xs[k] (List.getElem_mem hlt)
      unfold maxLen at hxm
      clear hv' hcc hcell
      by_cases hxl : 100 < xs[k].size
      · go_wp2
        go_ret
        exact ⟨rfl, hbl⟩
      · have hlen : (strs (s :: xs.take k)).length ≤ 101 := by rw [strs_len]; simp; omega
        go_wp2_with fail
        refine (wrap_err o n _ _ _ _ HC.out).mono ?_
        rintro e w3 ⟨o3, v3, rfl, hc3, hb3'⟩
        have HC3 := Lib.hid (hc3.under ((Below.refl _ _).alloc (Nat.le_refl _) (.cells #[.string xs[k]] 9)))
        have hb3 : Below w.heap.size w w3 := hbl.trans (hb3'.mono hsz)
        have hown3 := own_under hown hb3'
        have hsz3 := hb3.size
        clear hc3 hb3' hown
        go_wp2_with (at_builtin; refine wpList_append_own _ rfl _ _ 22 rfl w.heap.size 9 i0 (.string ⟨#[]⟩) 1 16 Tryd.underlying22 hi hz0 hz1 hz2 rfl (by decide) _ _ _ rfl (hown3.alloc _) ⟨w3.heap.size, 0, none⟩ 1 1 [.string xs[k]] rfl rfl (cell_one_new _ _ _) (strs_one [xs[k]]) (by unfold maxLen; omega) (by omega) (by simp; omega) ?_; intro v' w4 hown' hgr hnil)
        go_roundg (xs.length - (k + 1))
        case measure => have := HK.out; omega
        case rel =>
          refine ⟨k + 1, Lib.hid rfl, by omega, by go_num, ⟨o3, Lib.hid ?_⟩, ?_, (hb3.alloc hsz3 _).grown hgr (by simp; omega) (fun k hk => (hown3.lt k hk).1)⟩
          · rw [take_snoc xs k hlt, List.reverse_append]
            exact HC3.out.grown hgr (own_type (hown3.alloc _) (by decide) (by decide))
          · rw [take_snoc xs k hlt, ← List.cons_append, strs_snoc, List.length_append]
            exact hown'
    · obtain rfl : k = xs.length := by omega
      have HC := Lib.hid (show Chn wr o n (xs.reverse ++ [s]) _ by have := HC.out; rwa [List.take_length] at this)
      have HO := Lib.hid (show Vals wr _ (strs (s :: xs)) by have := Vals.of_own hown; rwa [List.take_length] at this)
      clear hown HV HX hlt hk HK
      go_wp2_with fail
      refine (code_err o n _ _ _ (HG.out.under hbl) HC.out).mono ?_
      rintro e w3 ⟨rfl, hb⟩
      have HC := Lib.hid (HC.out.under hb)
      have HO := Lib.hid (HO.out.under hb)
      have hb3 : Below w.heap.size w w3 := hbl.trans (hb.mono hbl.size)
      clear hb hbl
      go_wp2_with fail
      refine (is_err o n n _ _ _ (HG.out.under hb3) HC.out).mono ?_
      rintro e w4 ⟨rfl, hb⟩
      have HC := Lib.hid (HC.out.under hb)
      have HO := Lib.hid (HO.out.under hb)
      have hb4 : Below w.heap.size w w4 := hb3.trans (hb.mono hb3.size)
      clear hb hb3
      go_wp2_with fail
      refine (is_err o n 0 _ _ _ (HG.out.under hb4) HC.out).mono ?_
      rintro e w5 ⟨rfl, hb⟩
      have HC := Lib.hid (HC.out.under hb)
      have HO := Lib.hid (HO.out.under hb)
      have hb5 : Below w.heap.size w w5 := hb4.trans (hb.mono hb4.size)
      clear hb hb4
      go_wp2_with fail
      refine (places_err o n _ _ _ (by simp; omega) (HG.out.under hb5) HC.out).mono ?_
      rintro e w6 ⟨lv, rfl, hpv, hb⟩
      have HP := Lib.hid hpv
      have HO := Lib.hid (HO.out.under hb)
      have hb6 : Below w.heap.size w w6 := hb5.trans (hb.mono hb5.size)
      clear hb hb5 hpv HC
      go_wp2_with fail
      refine (chain_any _ _ _ (by simp; omega) HO.out).mono ?_
      rintro e w7 ⟨cv, rfl, hcv, hb⟩
      have HP := Lib.hid (HP.out.under hb)
      have HQ := Lib.hid (show Vals w7 cv (strs (xs.reverse ++ [s])) by rwa [List.reverse_cons] at hcv)
      have hb7 : Below w.heap.size w w7 := hb6.trans (hb.mono hb6.size)
      clear hb hb6 hcv HO
      go_wp2_with fail
      refine (same_yes _ _ _ _ (by simp; omega) HP.out HQ.out).mono ?_
      rintro e w8 ⟨rfl, hb⟩
      have hb8 : Below w.heap.size w w8 := hb7.trans (hb.mono hb7.size)
      clear hb hb7
      go_wp2
      go_ret
      exact ⟨rfl, hb8⟩

set_option maxHeartbeats 2000000 in
theorem walk_nil (s : ByteArray) (A : Option Addr) (c : Nat) (xs : List ByteArray) (w : World) (hg : Gl w) (hl : xs.length ≤ 100) (hs : s.size ≤ 100) (hv : Vals w (.slice A xs.length c) (strs xs)) (hx : ∀ x ∈ xs, x.size ≤ maxLen) :
    Calls Tryd.prog 3 #[.int .i64 0, .string s, .slice A xs.length c] w (Holds w) := by
  obtain ⟨i0, hi, hz0, hz1, hz2⟩ := info_parts Tinfo9
  have HG := Lib.hid hg
  have HV := Lib.hid hv
  have HX := Lib.hid hx
  clear hg hv hx
  go_enter Tryd.func3, Tryd.ntmps3
  go_wp2_with fail
  refine (awake_yes _ HG.out).mono ?_
  rintro e w1 ⟨rfl, hb1⟩
  have hsz1 := hb1.size
  go_wp2_with fail
  refine (new_ok s _).mono ?_
  rintro e w2 ⟨rfl, rfl⟩
  go_wp2
  go_loopg [7, 8, 31] xs.length (fun g x l i wr => ∃ k : Nat, Hid (g = xs.length - k) ∧ k ≤ xs.length ∧ i = .int .i64 k ∧ x = .nilIface ∧ wr.ownsRow w.heap.size 9 1 l (strs (s :: xs.take k)).length (strs (s :: xs.take k)) ∧ Below w.heap.size w wr)
  case atStart =>
    refine ⟨0, Lib.hid rfl, Nat.zero_le _, rfl, rfl, ?_, hb1.alloc hsz1 _⟩
    exact World.ownsRow_lit w1 #[.string s] 1 hsz1 (by decide) rfl
  case round =>
    obtain ⟨k, HK, hk, rfl, rfl, hown, hbl⟩ := hrel
    have hsz := hbl.size
    by_cases hlt : k < xs.length
    · obtain ⟨b, off, c', hv', hcc, hb, hcell⟩ := HV.out.full (by rw [strs_len]; omega)
      obtain rfl : A = some ⟨b, off, none⟩ := by injection hv'
      have cj : wr.cell? ⟨b, off + k, none⟩ = some (.string xs[k]) := (hbl.cell (p := ⟨b, off + k, none⟩) hb).trans (hcell k _ (strs_at xs k hlt))
      have hxm := HX.out xs[k] (List.getElem_mem hlt)
      unfold maxLen at hxm
      clear hv' hcc hcell
      by_cases hxl : 100 < xs[k].size
      · go_wp2
        go_ret
        exact ⟨rfl, hbl⟩
      · have hlen : (strs (s :: xs.take k)).length ≤ 101 := by rw [strs_len]; simp; omega
        go_wp2_with fail
        refine (wrap_nil _ _).mono ?_
        rintro e w3 ⟨rfl, rfl⟩
        go_wp2_with (at_builtin; refine wpList_append_own _ rfl _ _ 22 rfl w.heap.size 9 i0 (.string ⟨#[]⟩) 1 16 Tryd.underlying22 hi hz0 hz1 hz2 rfl (by decide) _ _ _ rfl (hown.alloc _) ⟨wr.heap.size, 0, none⟩ 1 1 [.string xs[k]] rfl rfl (cell_one_new _ _ _) (strs_one [xs[k]]) (by unfold maxLen; omega) (by omega) (by simp; omega) ?_; intro v' w4 hown' hgr hnil)
        go_roundg (xs.length - (k + 1))
        case measure => have := HK.out; omega
        case rel =>
          refine ⟨k + 1, Lib.hid rfl, by omega, by go_num, rfl, ?_, (hbl.alloc hsz _).grown hgr (by simp; omega) (fun k hk => (hown.lt k hk).1)⟩
          rw [take_snoc xs k hlt, ← List.cons_append, strs_snoc, List.length_append]
          exact hown'
    · obtain rfl : k = xs.length := by omega
      clear hown HV HX hlt hk HK
      go_wp2_with fail
      refine (code_nil _).mono ?_
      rintro e w3 ⟨rfl, rfl⟩
      go_wp2_with fail
      refine (places_nil _).mono ?_
      rintro e w3 ⟨rfl, rfl⟩
      go_wp2_with fail
      refine (is_nil _ _).mono ?_
      rintro e w3 ⟨rfl, rfl⟩
      go_wp2
      go_ret
      exact ⟨rfl, hbl⟩

theorem walk (n : Int) (s : ByteArray) (v : Value) (A : Option Addr) (c : Nat) (xs : List ByteArray) (w : World) (hg : Gl w) (hs : s.size ≤ maxLen) (hv : v = .slice A xs.length c) (hm : xs.length ≤ maxLen) (hV : Vals w v (strs xs)) (hx : ∀ x ∈ xs, x.size ≤ maxLen) :
    Calls Tryd.prog 3 #[.int .i64 n, .string s, v] w (Holds w) := by
  subst hv
  by_cases h1 : 100 < xs.length
  · exact walk_long n s A _ c w hg hm h1
  · by_cases h2 : 100 < s.size
    · exact walk_long2 n s A _ c w hg (by omega) hs h2
    · by_cases h0 : n = 0
      · subst h0
        exact walk_nil s A c xs w hg (by omega) (by omega) hV hx
      · exact walk_err n s A c xs w hg (by simpa using h0) (by omega) (by omega) hV hx

/-! From the walk to the given row and card. -/
set_option maxRecDepth 100000 in
theorem lifted (os : Os) (started : os.Started) (H : Type) (enc : TypeId × Value → H) :
    ReturnsInHanded {} Tryd.checked os 3 .any (fun w args => (Rows.faultWrapsSpec.pre enc Tryd.prog Tryd.f3 [] false w args ∧ laidMetH Tryd.prog laidList w) ∧ sizedMet enc Tryd.prog Tryd.f3 (OpenSpec.ofChange Rows.faultWrapsSpec) false w args)
      (Rows.faultWrapsSpec.post enc Tryd.prog Tryd.f3 false true false false) := by
  refine returnsInHanded_of_change_and (C := Tryd.checked) (X := fun w _ => laidMetH Tryd.prog laidList w) (fun _ _ _ hh h => h.of_heap hh) t_own started (by kernel_rfl) Tryd.func3
    (ChangeSpec.witness_at (enc := enc) (C := Tryd.checked) (os := os) (X := fun w _ => laidMetH Tryd.prog laidList w) false (laidWorld os) #[.int .i64 0, .string ⟨#[]⟩, .slice none 0 0] 8 rfl (by kernel_rfl) (by kernel_rfl) (by kernel_rfl) (by kernel_rfl) (by kernel_rfl) (laidWorld_met os _)) ?_
  intro W base args ds gs before hval0 hW _ _ hL _
  have hval : ∀ (j : Nat) t v, Tryd.f3.params[j]? = some t → args[j]? = some v → Value.okWide Tryd.prog W .any base t v := hval0
  have hW' := hW
  obtain ⟨p, q, hA0, hV0, rfl, hfz, hnd⟩ := hW
  have hA : DataW.TrodAll enc Tryd.prog W 0 (fun _ => true) true Tryd.f3.params.toList args.toList ds p := hA0
  rw [Tryd.params3] at hA hval
  obtain ⟨v0, vs0, d0, ds0, p0, q0, hargs, rfl, rfl, h0, r0⟩ := trodAll_cons hA
  obtain ⟨v1, vs1, d1, ds1, p1, q1, rfl, rfl, rfl, h1, r1⟩ := trodAll_cons r0
  obtain ⟨v2, vs2, d2, ds2, p2, q2, rfl, rfl, rfl, h2, r2⟩ := trodAll_cons r1
  obtain ⟨rfl, rfl, rfl⟩ := trodAll_nil r2
  obtain rfl : args = #[v0, v1, v2] := by cases args; simp_all
  obtain ⟨a0, rfl, rfl, rfl, w0⟩ := open_int Tryd.underlying3 (hval 0 3 v0 rfl rfl) h0
  obtain ⟨s, rfl, rfl, rfl, hs⟩ := Go.ChangeMaps.open_string Tryd.underlying9 (hval 1 9 v1 rfl rfl) h1
  obtain ⟨A, c, xs, hv, hm, hV, hx⟩ := open_list (hval 2 22 v2 rfl rfl) h2
  refine (walk a0 s v2 A c xs W (gl_of_laid hL) hs hv hm hV hx).mono fun e W' ⟨he, hb⟩ => ?_
  subst he
  exact ⟨_, rfl, post_of_holds hW' (by kernel_rfl) rfl (by rw [Tryd.params3]; exact fun t ht => params_ok t (by simp at ht; rcases ht with rfl | rfl | rfl <;> simp)) ⟨rfl, rfl, rfl⟩ hb⟩

theorem row_holds : Rows.FaultWrapsSaid :=
  OpenClaim.holds_of_wide 3 Tryd.f3 rfl rfl rfl rfl rfl rfl rfl ⟨rfl, rfl, rfl, rfl, rfl⟩ rfl rfl rfl rfl rfl (by kernel_rfl) Tryd.func3 (by kernel_rfl)
    (of_decide_eq_true (by kernel_rfl)) (by unfold Func.isWrapper; rw [if_neg (of_decide_eq_false (by kernel_rfl))]; exact ⟨rfl, rfl⟩)
    (fun os started H enc _ => lifted os started H enc)

/-- The given statement. -/
theorem proved : Rows.FaultWrapsCardSaid :=
  Claim7.holds_tied_plain_at .later [] [.handle] true (true, "49ccd34de63943d0caefc2dafc0495ec9455355acaa0e9f8f0a6ddb58e09088f") true
    row_holds (fun _ h => by cases h) (by kernel_rfl) (fun _ h => by cases h) faultWraps_row_tie rfl ⟨rfl, rfl⟩ (by kernel_rfl) rfl
    (fun f fn hf hfn => by
      obtain rfl : f = 3 := Option.some.inj ((show Tryd.prog.funcNamed "switchback/switchbacklaw02.FaultWraps" = some 3 by kernel_rfl).symm.trans hf) |>.symm
      obtain rfl : fn = Tryd.f3 := (Option.some.inj (Tryd.func3.symm.trans hfn)).symm
      exact ⟨by kernel_rfl, fun j t ht => by
        rw [Tryd.params3] at ht
        have ht' : t ∈ [3, 9, 22] := by
          have := Array.mem_of_getElem? ht
          simpa using this
        exact params_plain t (by simp at ht'; rcases ht' with rfl | rfl | rfl <;> simp)⟩)
    (by kernel_rfl)
#print axioms proved
end Go.Proofs.YtfpbilhangdccaaDoor.faultWraps
