/-
  switchback's RouterFuses: what the fuse doesn't bear does nothing, and uses no outcome. For every input the law returns true, and each argument reads afterwards as it read before. No condition beside the row's own.
-/
import Derived.Test.YtdhonbgladenpaaLaw
namespace Go.Proofs.Ytdhonbgladenpaa.routerFuses
open Go.Proofs.Ytdhonbgladenpaa
open Go.ChangeShapes Go.WideShapes Go.ChangeAt Go.RowKit
set_option linter.unusedVariables false

set_option maxRecDepth 100000 in
set_option maxHeartbeats 4000000 in
theorem walk_out0 (A : Option Addr) (c : Nat) (xs : List Int) (n : Int) (w : World) (h : 100 < xs.length) : Calls Try.prog 6 #[.slice A xs.length c, .int .i64 n] w (Holds w) := by
  have e1 : decide (100 < (xs.length : Int)) = true := by simp; omega
  clear h
  go_enter Try.func6, Try.ntmps6
  go_wp2_with fail
  refine (new_any _).mono ?_
  rintro e w1 ⟨g, rfl, hg, hz, hb⟩
  have HB1 := Lib.hid hb
  have HZ1 : Hid (Fz w1 g 53 (F 0)) := Lib.hid hz
  have HG := Lib.hid (Nat.le_of_eq hg)
  clear hz hb hg
  go_wp2_with fail
  refine (awake_any _).mono ?_
  rintro e w2 ⟨rfl, hb⟩
  have HB2 := Lib.hid (HB1.out.trans (hb.mono HB1.out.size))
  have HZ2 := Lib.hid (HZ1.out.under hb HZ1.out.lt)
  clear hb HB1 HZ1
  clear HZ2 HG
  go_wp2_with fail
  refine (awake_any _).mono ?_
  rintro e w3 ⟨rfl, hb⟩
  have HB3 := Lib.hid (HB2.out.trans (hb.mono HB2.out.size))
  clear hb HB2
  go_wp2
  go_ret
  exact ⟨rfl, HB3.out⟩

set_option maxRecDepth 100000 in
set_option maxHeartbeats 4000000 in
theorem walk_out1 (A : Option Addr) (c : Nat) (xs : List Int) (n : Int) (w : World) (h : ¬ 100 < xs.length) (h2 : n < 0) : Calls Try.prog 6 #[.slice A xs.length c, .int .i64 n] w (Holds w) := by
  have e1 : decide (100 < (xs.length : Int)) = false := by simp; omega
  have e2 : decide (n < 0) = true := by simpa using h2
  clear h h2
  go_enter Try.func6, Try.ntmps6
  go_wp2_with fail
  refine (new_any _).mono ?_
  rintro e w1 ⟨g, rfl, hg, hz, hb⟩
  have HB1 := Lib.hid hb
  have HZ1 : Hid (Fz w1 g 53 (F 0)) := Lib.hid hz
  have HG := Lib.hid (Nat.le_of_eq hg)
  clear hz hb hg
  go_wp2_with fail
  refine (awake_any _).mono ?_
  rintro e w2 ⟨rfl, hb⟩
  have HB2 := Lib.hid (HB1.out.trans (hb.mono HB1.out.size))
  have HZ2 := Lib.hid (HZ1.out.under hb HZ1.out.lt)
  clear hb HB1 HZ1
  clear HZ2 HG
  go_wp2_with fail
  refine (awake_any _).mono ?_
  rintro e w3 ⟨rfl, hb⟩
  have HB3 := Lib.hid (HB2.out.trans (hb.mono HB2.out.size))
  clear hb HB2
  go_wp2
  go_ret
  exact ⟨rfl, HB3.out⟩

set_option maxRecDepth 100000 in
set_option maxHeartbeats 4000000 in
theorem walk_out2 (A : Option Addr) (c : Nat) (xs : List Int) (n : Int) (w : World) (h : ¬ 100 < xs.length) (h2 : ¬ n < 0) (h3 : 100 < n) : Calls Try.prog 6 #[.slice A xs.length c, .int .i64 n] w (Holds w) := by
  have e1 : decide (100 < (xs.length : Int)) = false := by simp; omega
  have e2 : decide (n < 0) = false := by simpa using h2
  have e3 : decide (100 < n) = true := by simpa using h3
  clear h h2 h3
  go_enter Try.func6, Try.ntmps6
  go_wp2_with fail
  refine (new_any _).mono ?_
  rintro e w1 ⟨g, rfl, hg, hz, hb⟩
  have HB1 := Lib.hid hb
  have HZ1 : Hid (Fz w1 g 53 (F 0)) := Lib.hid hz
  have HG := Lib.hid (Nat.le_of_eq hg)
  clear hz hb hg
  go_wp2_with fail
  refine (awake_any _).mono ?_
  rintro e w2 ⟨rfl, hb⟩
  have HB2 := Lib.hid (HB1.out.trans (hb.mono HB1.out.size))
  have HZ2 := Lib.hid (HZ1.out.under hb HZ1.out.lt)
  clear hb HB1 HZ1
  clear HZ2 HG
  go_wp2_with fail
  refine (awake_any _).mono ?_
  rintro e w3 ⟨rfl, hb⟩
  have HB3 := Lib.hid (HB2.out.trans (hb.mono HB2.out.size))
  clear hb HB2
  go_wp2
  go_ret
  exact ⟨rfl, HB3.out⟩

set_option maxRecDepth 100000 in
set_option maxHeartbeats 4000000 in
theorem walk_in (A : Option Addr) (c : Nat) (xs : List Int) (m : Nat) (w : World) (hi : IntsI w (.slice A xs.length c) xs) (h : xs.length ≤ 100) (h2 : m ≤ 100) : Calls Try.prog 6 #[.slice A xs.length c, .int .i64 (m : Int)] w (Holds w) := by
  have e1 : decide (100 < (xs.length : Int)) = false := by simp; omega
  have e2 : decide ((m : Int) < 0) = false := by simp
  have e3 : decide (100 < (m : Int)) = false := by simp; omega
  have HI := Lib.hid hi
  have HL := Lib.hid h
  have HM := Lib.hid h2
  have q34 := eq34
  have bs0 := build0
  clear hi h h2
  go_enter Try.func6, Try.ntmps6
  go_wp2_with fail
  refine (new_any _).mono ?_
  rintro e w1 ⟨g, rfl, hg, hz, hb⟩
  have HB1 := Lib.hid hb
  have HZ1 : Hid (Fz w1 g 53 (F 0)) := Lib.hid hz
  have HG := Lib.hid (Nat.le_of_eq hg)
  clear hz hb hg
  go_wp2_with fail
  refine (awake_any _).mono ?_
  rintro e w2 ⟨rfl, hb⟩
  have HB2 := Lib.hid (HB1.out.trans (hb.mono HB1.out.size))
  have HZ2 := Lib.hid (HZ1.out.under hb HZ1.out.lt)
  clear hb HB1 HZ1
  go_wp2_with fail
  refine (pk_new w.heap.size g _ w2 HZ2.out HG.out).mono ?_
  rintro e w3 ⟨b, rfl, hp, hb⟩
  have HP3 := Lib.hid hp
  have HB3 := Lib.hid (HB2.out.trans (hb.mono HB2.out.size))
  clear hp hb HB2 HZ2 HG
  obtain ⟨A1, n1, c1, W1, ea, hi1, hb1⟩ := copy_ints (HI.out.under HB3.out (Nat.le_refl _)) (by have := HL.out; omega)
  have E1 := Lib.hid ea
  have HI1 := Lib.hid hi1
  have HP4 := Lib.hid (HP3.out.under hb1)
  have HB4 := Lib.hid (HB3.out.trans (hb1.mono HB3.out.size))
  clear ea hi1 hb1 HP3 HB3
  go_wp2_with (first | (at_builtin; refine wpList_append_is rfl (.tmp 35) (.tmp 36) 35 rfl rfl rfl E1.out ?_))
  refine (pk_script w.heap.size b g _ _ _ xs W1 HP4.out HI1.out (by have := HL.out; simp; omega)).mono ?_
  rintro e w5 ⟨rfl, hp, ht⟩
  have HP5 : Hid (Pk w5 w.heap.size b g ⟨0, 0, xs, 0⟩ (F 0)) := Lib.hid hp
  have HB5 := Lib.hid (ht.below HB4.out)
  clear hp ht HP4 HB4 E1 HI1 bs0
  go_wp2_with fail
  refine (pk_arm w.heap.size b g _ _ 0 w5 HP5.out).mono ?_
  rintro e w6 ⟨rfl, hp, ht⟩
  have HP6 : Hid (Pk w6 w.heap.size b g ⟨0, 0, xs, 0⟩ ⟨true, 0, false, 0⟩) := Lib.hid hp
  have HB6 := Lib.hid (ht.below HB5.out)
  clear hp ht HP5 HB5
  go_wp2
  go_loopg [42] m (fun gh i wr => ∃ k : Nat, Hid (gh = m - k) ∧ k ≤ m ∧ i = .int .i64 (k : Int) ∧ Hid (∃ bl, Pk wr w.heap.size b g ⟨0, 0, xs, 0⟩ ⟨true, 0, bl, 0⟩) ∧ Hid (Below w.heap.size w wr))
  case atStart => exact ⟨0, Lib.hid rfl, Nat.zero_le _, rfl, Lib.hid ⟨false, HP6.out⟩, HB6⟩
  case round =>
    obtain ⟨k, HGH, hk, rfl, HQ, HBL⟩ := hrel
    obtain ⟨bl, hq⟩ := HQ.out
    have HP7 := Lib.hid hq
    clear hq HQ HP6 HB6
    by_cases hlt : k < m
    · have el : decide ((k : Int) < (m : Int)) = true := by simpa using hlt
      have en : decide (k < m) = true := decide_eq_true hlt
      have HLT := Lib.hid hlt
      have hk9 : k ≤ 100 := by have := HM.out; omega
      clear hlt
      go_wp2_with fail
      refine (pk_call w.heap.size b g _ _ 5 1 wr HP7.out (fineA bl) (by simp)).mono ?_
      rw [(told51 ⟨0, 0, xs, 0⟩ bl).1, (told51 ⟨0, 0, xs, 0⟩ bl).2.1, (told51 ⟨0, 0, xs, 0⟩ bl).2.2]
      rintro e w8 ⟨rfl, hp, ht⟩
      have HP8 := Lib.hid hp
      have HB8 := Lib.hid (ht.below HBL.out)
      clear hp ht HP7 HBL
      go_wp2_with fail
      refine (pk_cell w.heap.size b g _ _ w8 HP8.out).mono ?_
      rintro e w9 ⟨rfl, hb⟩
      have HP9 := Lib.hid (HP8.out.under hb)
      have HB9 := Lib.hid (HB8.out.trans (hb.mono HB8.out.size))
      clear hb HP8 HB8
      go_wp2_with fail
      refine (pk_writes w.heap.size b g _ _ w9 HP9.out).mono ?_
      rintro e w10 ⟨rfl, rfl⟩
      go_wp2
      go_roundg (m - (k + 1))
      case measure => have := HGH.out; have := HLT.out; omega
      case rel => exact ⟨k + 1, Lib.hid rfl, HLT.out, by go_num, Lib.hid ⟨true, HP9.out⟩, HB9⟩
    · have el : decide ((k : Int) < (m : Int)) = false := by simpa using hlt
      have en : decide (k < m) = false := decide_eq_false hlt
      clear hlt hk HGH
      go_wp2_with fail
      refine (pk_reset w.heap.size b g _ _ wr HP7.out).mono ?_
      rintro e w8 ⟨rfl, hp, ht⟩
      have HP8 : Hid (Pk w8 w.heap.size b g ⟨0, 0, xs, 0⟩ (F 0)) := Lib.hid hp
      have HB8 := Lib.hid (ht.below HBL.out)
      clear hp ht HP7 HBL
      go_wp2_with fail
      refine (pk_call w.heap.size b g _ _ 5 1 w8 HP8.out (fineF 0 (by omega)) (by simp)).mono ?_
      rw [(toldF (s := ⟨0, 0, xs, 0⟩) r51).1, (toldF (s := ⟨0, 0, xs, 0⟩) r51).2.1, (toldF (s := ⟨0, 0, xs, 0⟩) r51).2.2]
      rintro e w9 ⟨rfl, hp, ht⟩
      have HP9 : Hid (Pk w9 w.heap.size b g (callS ⟨0, 0, xs, 0⟩ 5 1) (F 1)) := Lib.hid hp
      have HB9 := Lib.hid (ht.below HB8.out)
      have hi9 := HI.out.under HB9.out (Nat.le_refl _)
      clear hp ht HP8 HB8 HI e1 e2 e3 el en
      cases xs with
      | nil =>
        have HE : Hid (callE ⟨0, 0, [], 0⟩ 5 1 = 0) := Lib.hid (by kernel_rfl)
        rw [HE.out]
        clear HE hi9
        go_wp2_with fail
        refine (pk_count w.heap.size b g _ _ w9 HP9.out).mono ?_
        rintro e w10 ⟨rfl, rfl⟩
        unfold F
        go_wp2
        go_ret
        exact ⟨rfl, HB9.out⟩
      | cons x xs =>
        rcases hi9 with ⟨_, h0⟩ | ⟨bb, o, cc, hs, _, _, _, hcell⟩
        · cases h0
        · injection hs with hs1 _ hs3
          subst hs1 hs3
          have ce : w9.cell? ⟨bb, o, none⟩ = some (.int .i64 x) := by have := hcell 0 (by simp); simpa using this
          clear hcell
          have el : decide (0 < ((x :: xs).length : Int)) = true := by simp <;> omega
          by_cases h1 : x = 1
          · subst h1
            have HE : Hid (callE ⟨0, 0, 1 :: xs, 0⟩ 5 1 = 10) := Lib.hid (by simp [callE, outS])
            rw [HE.out]
            clear HE
            go_wp2_with fail
            refine (pk_count w.heap.size b g _ _ w9 HP9.out).mono ?_
            rintro e w10 ⟨rfl, rfl⟩
            unfold F
            go_wp2
            go_ret
            exact ⟨rfl, HB9.out⟩
          · have n1 : (x == 1) = false := by simpa using h1
            by_cases h2 : x = 2
            · subst h2
              have HE : Hid (callE ⟨0, 0, 2 :: xs, 0⟩ 5 1 = 10) := Lib.hid (by simp [callE, outS])
              rw [HE.out]
              clear HE
              go_wp2_with fail
              refine (pk_count w.heap.size b g _ _ w9 HP9.out).mono ?_
              rintro e w10 ⟨rfl, rfl⟩
              unfold F
              go_wp2
              go_ret
              exact ⟨rfl, HB9.out⟩
            · have n2 : (x == 2) = false := by simpa using h2
              have HE : Hid (callE ⟨0, 0, x :: xs, 0⟩ 5 1 = 0) := Lib.hid (by simp [callE, outS, h1, h2])
              rw [HE.out]
              clear HE h1 h2
              go_wp2_with fail
              refine (pk_count w.heap.size b g _ _ w9 HP9.out).mono ?_
              rintro e w10 ⟨rfl, rfl⟩
              unfold F
              go_wp2
              go_ret
              exact ⟨rfl, HB9.out⟩

theorem walk (v : Value) (xs : List Int) (n : Int) (w : World) (hi : IntsI w v xs) : Calls Try.prog 6 #[v, .int .i64 n] w (Holds w) := by
  obtain ⟨A, c, rfl⟩ := hi.shape
  by_cases h : 100 < xs.length
  · exact walk_out0 A c xs n w h
  by_cases h2 : n < 0
  · exact walk_out1 A c xs n w h h2
  by_cases h3 : 100 < n
  · exact walk_out2 A c xs n w h h2 h3
  obtain ⟨m, rfl⟩ := Int.eq_ofNat_of_zero_le (show 0 ≤ n by omega)
  exact walk_in A c xs m w hi (by omega) (by omega)

/-! From the walk to the given row. -/
set_option maxRecDepth 100000 in
theorem lifted (os : Os) (started : os.Started) (H : Type) (enc : TypeId × Value → H) :
    ReturnsInHanded {} Try.checked os 6 .any (Rows.routerFusesSpec.pre6 enc Try.prog Try.f6 Rows.routerFusesRow.domain false) (Rows.routerFusesSpec.post enc Try.prog Try.f6 false true false false) := by
  refine returnsInHanded_of_change (C := Try.checked) t_own started (by kernel_rfl) Try.func6
    (ChangeSpec.witness6 (enc := enc) (C := Try.checked) false ⟨#[], #[.slice none 0 0, .int .i64 0], []⟩ 8 (by kernel_rfl) (by kernel_rfl) (by kernel_rfl) (by kernel_rfl)) ?_
  intro W base args ds gs before hval0 hW hcnd _
  have hval : ∀ (j : Nat) t v, Try.f6.params[j]? = some t → args[j]? = some v → Value.okWide Try.prog W .any base t v := hval0
  have hW' := hW
  obtain ⟨p, q, hA0, hV, rfl, hfz, hnd⟩ := hW
  have hA : DataW.TrodAll enc Try.prog W 0 (fun _ => true) true Try.f6.params.toList args.toList ds p := hA0
  rw [Try.params6] at hA hval
  obtain ⟨v0, vs0, d0, ds0, p0, q0, hargs, rfl, rfl, h0, r0⟩ := trodAll_cons hA
  obtain ⟨v1, vs1, d1, ds1, p1, q1, rfl, rfl, rfl, h1, r1⟩ := trodAll_cons r0
  obtain ⟨rfl, rfl, rfl⟩ := trodAll_nil r1
  obtain rfl : args = #[v0, v1] := by cases args; simp_all
  obtain ⟨xs, hi, _⟩ := open_ints (hval 0 35 v0 rfl rfl) h0
  obtain ⟨a1, rfl, rfl, rfl, w1⟩ := open_int Try.underlying3 (hval 1 3 v1 rfl rfl) h1
  refine (walk v0 xs a1 W hi).mono fun e W' ⟨he, hb⟩ => ?_
  subst he
  exact ⟨_, rfl, post_of_holds hW' (by kernel_rfl) rfl (by rw [Try.params6]; exact fun t ht => params_ok t (by simp at ht; rcases ht with rfl | rfl <;> simp)) ⟨rfl, rfl, rfl⟩ hb⟩

/-- The given statement. -/
theorem proved : Rows.RouterFusesSaid :=
  OpenClaim.holds_of_wide 6 Try.f6 rfl rfl rfl rfl rfl rfl rfl ⟨rfl, rfl, rfl, rfl, rfl⟩ rfl rfl rfl rfl rfl (by kernel_rfl) Try.func6 (by kernel_rfl)
    (of_decide_eq_true (by kernel_rfl)) (by unfold Func.isWrapper; first | (rw [if_pos (by decide +kernel)]; kernel_rfl) | (rw [if_neg (by decide +kernel)]; exact ⟨rfl, rfl⟩))
    (fun os started H enc _ => lifted os started H enc)
#print axioms proved
end Go.Proofs.Ytdhonbgladenpaa.routerFuses
