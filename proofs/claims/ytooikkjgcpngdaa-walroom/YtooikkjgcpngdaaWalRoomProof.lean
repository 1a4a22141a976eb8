/-
  switchback's WalRoom: a log has as many records' room as half of its disk's sectors, less one for the head, less its records; each append that is told takes one, whatever its length. For every input the call returns true, and each argument reads afterwards as it read before. No condition.
-/
import Derived.Test.YtooikkjgcpngdaaLift
namespace Go.Proofs.Ytooikkjgcpngdaa.walRoom
open Go.ChangeShapes Go.WideShapes Go.ChangeAt Go.RowKit
open Fr (Rec secB valL lenV)

set_option maxRecDepth 100000 in
set_option maxHeartbeats 4000000 in
theorem walk_long0 (x : Int) (A : Option Addr) (c : Nat) (xs : List ByteArray) (w : World) (h1 : 40 < x) : Calls Try.prog 7 #[.int .i64 x, .slice A xs.length c] w (Holds w) := by
  have e1 : decide (40 < x) = true := by simp; omega
  go_enter Try.func7, Try.ntmps7
  go_wp2_with fail
  refine (new_any _).mono ?_
  rintro e w1 ⟨f, rfl, hg, hz, hb⟩
  have HB1 := Lib.hid hb
  have HZ1 := Lib.hid hz
  have HG := Lib.hid hg
  clear hz hb hg
  go_wp2_with fail
  refine (awake_yes _).mono ?_
  rintro e w2 ⟨rfl, hb⟩
  have HB2 := Lib.hid (HB1.out.trans (hb.mono HB1.out.size))
  have HZ2 := Lib.hid (HZ1.out.under hb HZ1.out.lt)
  clear hb HZ1
  go_wp2_with fail
  refine (awake_yes _).mono ?_
  rintro e w3 ⟨rfl, hb⟩
  have HB3 := Lib.hid (HB2.out.trans (hb.mono HB2.out.size))
  clear hb
  go_wp2
  go_ret
  exact ⟨rfl, HB3.out⟩

set_option maxRecDepth 100000 in
set_option maxHeartbeats 4000000 in
theorem walk_long1 (x : Int) (A : Option Addr) (c : Nat) (xs : List ByteArray) (w : World) (h1 : x ≤ 40) (hl : xs.length ≤ maxLen) (h2 : 40 < xs.length) : Calls Try.prog 7 #[.int .i64 x, .slice A xs.length c] w (Holds w) := by
  unfold maxLen at hl
  have e1 : decide (40 < x) = false := by simp; omega
  have e2 : decide (40 < (xs.length : Int)) = true := by simp; omega
  go_enter Try.func7, Try.ntmps7
  go_wp2_with fail
  refine (new_any _).mono ?_
  rintro e w1 ⟨f, rfl, hg, hz, hb⟩
  have HB1 := Lib.hid hb
  have HZ1 := Lib.hid hz
  have HG := Lib.hid hg
  clear hz hb hg
  go_wp2_with fail
  refine (awake_yes _).mono ?_
  rintro e w2 ⟨rfl, hb⟩
  have HB2 := Lib.hid (HB1.out.trans (hb.mono HB1.out.size))
  have HZ2 := Lib.hid (HZ1.out.under hb HZ1.out.lt)
  clear hb HZ1
  go_wp2_with fail
  refine (awake_yes _).mono ?_
  rintro e w3 ⟨rfl, hb⟩
  have HB3 := Lib.hid (HB2.out.trans (hb.mono HB2.out.size))
  clear hb
  go_wp2
  go_ret
  exact ⟨rfl, HB3.out⟩

set_option maxRecDepth 100000 in
set_option maxHeartbeats 4000000 in
theorem walk_main (x : Int) (hx : x ≤ 40) (M hf : Nat) (emm : min (max x 4) 1024 = (M : Int)) (hh : hf = M / 2) (A : Option Addr) (ca : Nat) (xs : List ByteArray) (w : World) (hl : xs.length ≤ 40) (hv : Vals w (.slice A xs.length ca) (strs xs)) (hsz : ∀ s ∈ xs, s.size ≤ maxLen) : Calls Try.prog 7 #[.int .i64 x, .slice A xs.length ca] w (Holds w) := by
  have e1 : decide (40 < x) = false := by simp; omega
  have hM : 4 ≤ M ∧ M ≤ 40 := by omega
  obtain ⟨hM, hM2⟩ := hM
  have eh : (M : Int) / 2 = (hf : Int) := by omega
  have hf2 : 2 ≤ hf := by omega
  have HHF := Lib.hid hh
  clear hh
  have e2 : decide (40 < (xs.length : Int)) = false := by simp; omega
  have HV := Lib.hid hv
  have HSZ := Lib.hid hsz
  clear hv hsz
  go_enter Try.func7, Try.ntmps7
  go_wp2_with fail
  refine (new_any _).mono ?_
  rintro e w1 ⟨f, rfl, hg, hz, hb⟩
  have HB1 := Lib.hid hb
  have HZ1 := Lib.hid hz
  have HG := Lib.hid hg
  clear hz hb hg
  go_wp2_with fail
  refine (awake_yes _).mono ?_
  rintro e w2 ⟨rfl, hb⟩
  have HB2 := Lib.hid (HB1.out.trans (hb.mono HB1.out.size))
  have HZ2 := Lib.hid (HZ1.out.under hb HZ1.out.lt)
  clear hb HZ1
  go_wp2_with fail
  refine (new_D (B := w.heap.size) 128 x 128 M (by decide) emm.symm HZ2.out new_good (Nat.le_of_eq HG.out) HB2.out.size).mono ?_
  rintro e w3 ⟨d, P3, rfl, hd, hb, hp⟩
  have HD3 := Lib.hid hd
  have HB3 := Lib.hid (HB2.out.trans (hb.mono HB2.out.size))
  clear hd hb hp HZ2
  go_wp2_with fail
  refine (st_fresh HD3.out (by omega) (by omega) (by omega) (by omega) HB3.out.size).mono ?_
  rintro e w4 ⟨U4, v, ra, rc, rfl, hs, hb⟩
  have H4 := Lib.hid hs
  have HB4 := Lib.hid (HB3.out.trans hb)
  clear hs hb
  go_wp2
  go_loopg [11, 51] xs.length (fun g y i wr => ∃ (k c : Nat) (U : Nat → Prop) (l : Lg), Hid (g = xs.length - k) ∧ k ≤ xs.length ∧ c ≤ 512 ∧ y = .int .i64 (c : Int) ∧ i = .int .i64 (k : Int) ∧ Hid (l.list.length = c) ∧ Hid (St wr w.heap.size U d f v 128 M l (2 + 2 * k)) ∧ Hid (Below w.heap.size w wr))
  case atStart => exact ⟨0, 0, U4, _, Lib.hid rfl, Nat.zero_le _, by omega, rfl, rfl, Lib.hid rfl, H4, HB4⟩
  case round =>
    obtain ⟨k, c, U, l, HGG, hk, hc5, rfl, rfl, HLN, HS, HBL⟩ := hrel
    by_cases hlt : k < xs.length
    · obtain ⟨b, off, c', hve, hcc, hb, hxx⟩ := HV.out.full (by rw [strs_len]; omega)
      obtain rfl : A = some ⟨b, off, none⟩ := by injection hve
      have ck : wr.cell? ⟨b, off + k, none⟩ = some (.string xs[k]) := (HBL.out.cell (p := ⟨b, off + k, none⟩) hb).trans (hxx k _ (strs_at xs k hlt))
      have hs0 := HSZ.out xs[k] (List.getElem_mem hlt)
      have HS0 := Lib.hid hs0
      unfold maxLen at hs0
      clear hve hcc hxx
      obtain ⟨t, ht⟩ : ∃ t, t = xs[k] := ⟨_, rfl⟩
      rw [← ht] at ck hs0 HS0
      clear ht
      have hlen := HS.out.len
      rw [HLN.out] at hlen
      by_cases hbig : 200 < t.size
      · have e3 : decide (200 < (t.size : Int)) = true := by simp; omega
        clear hlen
        go_wp2
        go_ret
        exact ⟨rfl, HBL.out⟩
      · have e3 : decide (200 < (t.size : Int)) = false := by simp; omega
        have HA := Lib.hid (st_append t HS0.out HS.out (by omega) HBL.out.size)
        by_cases hok : t.size ≤ 114 ∧ c + 1 < hf
        · obtain ⟨ho1, ho2⟩ := hok
          have e4 : decide ((t.size : Int) ≤ 114) = true := by simp; omega
          have e5 : decide ((c : Int) < ((hf : Int) - 1)) = true := by simp; omega
          have e6 : decide (c < hf - 1) = true := by simp; omega
          have ac := acode0 (z := 128) (m := M) (l := l) (t := t) (by omega) (by rw [HLN.out]; rw [← HHF.out]; exact ho2)
          rw [ac.1, ac.2] at HA
          clear ac hlen
          go_wp2_with fail
          refine HA.out.mono ?_
          rintro e w5 ⟨rfl, U5, hs, _, hk5⟩
          have H5 := Lib.hid hs
          have HB5 := Lib.hid (HBL.out.trans (HS.out.below hk5 HBL.out.size))
          clear hs hk5
          have HR := Lib.hid (st_room H5.out)
          rw [show ((((M) / 2 : Nat) : Int) - 1 - (({ l with list := l.list ++ [t] } : Lg).list.length : Int)) = ((hf : Int) - 1) - ((c : Int) + 1) from by simp only [List.length_append, HLN.out]; simp only [List.length_singleton]; have := HHF.out; omega] at HR
          go_wp2_with fail
          refine HR.out.mono ?_
          rintro e w6 ⟨rfl, ha⟩
          have H6 := Lib.hid (H5.out.alike ha)
          have HB6 := Lib.hid (below_alike HB5.out ha)
          clear ha
          go_wp2
          go_roundg (xs.length - (k + 1))
          case measure => have := HGG.out; omega
          case rel => exact ⟨k + 1, c + 1, U5, _, Lib.hid rfl, by omega, by omega, by go_num, by go_num, Lib.hid (by simp [HLN.out]), H6, HB6⟩
        · have key : ∃ q : Int, (q = 5 ∨ q = 3) ∧ acodeZ 128 M l t = q ∧ alogZ 128 M l t = l := by
            by_cases h114 : 114 < t.size
            · exact ⟨5, .inl rfl, acode5 (by omega)⟩
            · exact ⟨3, .inr rfl, acode3 (by omega) (by rw [HLN.out]; rw [← HHF.out]; omega)⟩
          obtain ⟨q, hq, hq1, hq2⟩ := key
          rw [hq1, hq2] at HA
          have e0 : (q == 0) = false := by simp; omega
          have HR : Hid (∀ W, St W w.heap.size U d f v 128 M l (2 + 2 * k + 2) → True) := Lib.hid (fun _ _ => trivial)
          clear hq hq1 hq2 hlen HR
          have e45 : (decide ((t.size : Int) ≤ 114) = false) ∨ (decide ((t.size : Int) ≤ 114) = true ∧ decide ((c : Int) < ((hf : Int) - 1)) = false ∧ decide (c < hf - 1) = false) := by
            by_cases h : t.size ≤ 114
            · exact .inr ⟨by simp; omega, by simp; omega, by simp; omega⟩
            · exact .inl (by simp; omega)
          rcases e45 with e4 | ⟨e4, e5, e6⟩
          all_goals
            go_wp2_with fail
            refine HA.out.mono ?_
            rintro e w5 ⟨rfl, U5, hs, _, hk5⟩
            have H5 := Lib.hid hs
            have HB5 := Lib.hid (HBL.out.trans (HS.out.below hk5 HBL.out.size))
            clear hs hk5
            have HR := Lib.hid (st_room H5.out)
            rw [show ((((M) / 2 : Nat) : Int) - 1 - (l.list.length : Int)) = ((hf : Int) - 1) - (c : Int) from by rw [HLN.out]; have := HHF.out; omega] at HR
            go_wp2_with fail
            refine HR.out.mono ?_
            rintro e w6 ⟨rfl, ha⟩
            have H6 := Lib.hid (H5.out.alike ha)
            have HB6 := Lib.hid (below_alike HB5.out ha)
            clear ha
            go_wp2
            go_roundg (xs.length - (k + 1))
            case measure => have := HGG.out; omega
            case rel => exact ⟨k + 1, c, U5, _, Lib.hid rfl, by omega, by omega, rfl, by go_num, HLN, H6, HB6⟩
    · go_wp2
      go_ret
      exact ⟨rfl, HBL.out⟩

theorem walk (x : Int) (v : Value) (xs : List ByteArray) (w : World) (hl : xs.length ≤ maxLen) (hv : Vals w v (strs xs)) (hsz : ∀ s ∈ xs, s.size ≤ maxLen) : Calls Try.prog 7 #[.int .i64 x, v] w (Holds w) := by
  obtain ⟨A, c, h⟩ := hv.slice
  rw [strs_len] at h
  subst h
  by_cases h1 : 40 < x
  · exact walk_long0 x A c xs w h1
  by_cases h2 : 40 < xs.length
  · exact walk_long1 x A c xs w (by omega) hl h2
  obtain ⟨M, hM⟩ : ∃ M : Nat, min (max x 4) 1024 = (M : Int) := ⟨(min (max x 4) 1024).toNat, by omega⟩
  exact walk_main x (by omega) M (M / 2) hM rfl A c xs w (by omega) hv hsz

/-! From the walk to the given row. -/
set_option maxRecDepth 100000 in
theorem lifted (os : Os) (started : os.Started) (H : Type) (enc : TypeId × Value → H) :
    ReturnsInHanded {} Try.checked os 7 .any (Rows.walRoomSpec.pre6 enc Try.prog Try.f7 Rows.walRoomRow.domain false) (Rows.walRoomSpec.post enc Try.prog Try.f7 false true false false) := by
  refine returnsInHanded_of_change (C := Try.checked) t_own started (by kernel_rfl) Try.func7
    (ChangeSpec.witness6 (enc := enc) (C := Try.checked) false ⟨#[], #[.int .i64 0, .slice none 0 0], []⟩ 8 (by kernel_rfl) (by kernel_rfl) (by kernel_rfl) (by kernel_rfl)) ?_
  intro W base args ds gs before hval0 hW hcnd _
  have hval : ∀ (j : Nat) t v, Try.f7.params[j]? = some t → args[j]? = some v → Value.okWide Try.prog W .any base t v := hval0
  have hW' := hW
  obtain ⟨p, q, hA0, hV, rfl, hfz, hnd⟩ := hW
  have hA : DataW.TrodAll enc Try.prog W 0 (fun _ => true) true Try.f7.params.toList args.toList ds p := hA0
  rw [Try.params7] at hA hval
  obtain ⟨v0, vs0, d0, ds0, p0, q0, hargs, rfl, rfl, h0, r0⟩ := trodAll_cons hA
  obtain ⟨v1, vs1, d1, ds1, p1, q1, rfl, rfl, rfl, h1, r1⟩ := trodAll_cons r0
  obtain ⟨rfl, rfl, rfl⟩ := trodAll_nil r1
  obtain rfl : args = #[v0, v1] := by cases args; simp_all
  obtain ⟨x, rfl, rfl, rfl, hn⟩ := open_int Try.underlying3 (hval 0 3 v0 rfl rfl) h0
  obtain ⟨xs, hl, hv, hsz⟩ := open_list (hval 1 36 v1 rfl rfl) h1
  refine (walk x v1 xs W hl hv hsz).mono fun e W' ⟨he, hb⟩ => ?_
  subst he
  exact ⟨_, rfl, post_of_holds hW' (by kernel_rfl) rfl (by rw [Try.params7]; exact fun t ht => params_ok t (by simp at ht; rcases ht with rfl | rfl <;> simp)) ⟨rfl, rfl, rfl⟩ hb⟩

/-- The given statement. -/
theorem proved : Rows.WalRoomSaid :=
  OpenClaim.holds_of_wide 7 Try.f7 rfl rfl rfl rfl rfl rfl rfl ⟨rfl, rfl, rfl, rfl, rfl⟩ rfl rfl rfl rfl rfl (by kernel_rfl) Try.func7 (by kernel_rfl)
    (of_decide_eq_true (by kernel_rfl)) (by unfold Func.isWrapper; first | (rw [if_pos (by decide +kernel)]; kernel_rfl) | (rw [if_neg (by decide +kernel)]; exact ⟨rfl, rfl⟩))
    (fun os started H enc _ => lifted os started H enc)
#print axioms proved
end Go.Proofs.Ytooikkjgcpngdaa.walRoom

