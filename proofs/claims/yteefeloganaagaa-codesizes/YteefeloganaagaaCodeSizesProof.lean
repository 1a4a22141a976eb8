/-
  switchback's CodeSizes: a number has one byte below 128, and one more for each seven bits more; two lists with the same bytes are the same. For every input the call returns true, and each argument reads afterwards as it read before. No condition.
-/
import Derived.Test.YteefeloganaagaaLift
namespace Go.Proofs.Yteefeloganaagaa.codeSizes
open Go.ChangeShapes Go.WideShapes Go.ChangeAt Go.RowKit

set_option maxRecDepth 100000 in
set_option maxHeartbeats 1000000 in
theorem walk_long (k : Int) (A B : Option Addr) (n m c d : Nat) (w : World) (hs : n ≤ maxLen) (h : 100 < n) : Calls Try.prog 8 #[.int .i64 k, .slice A n c, .slice B m d] w (Holds w) := by
  unfold maxLen at hs
  have e1 : decide (100 < (n : Int)) = true := by simp; omega
  go_enter Try.func8, Try.ntmps8
  go_wp2_with fail
  refine (awake_yes _).mono ?_
  rintro e w1 ⟨rfl, hb⟩
  have HB1 := Lib.hid hb
  clear hb
  go_wp2_with fail
  refine (awake_yes _).mono ?_
  rintro e w2 ⟨rfl, hb⟩
  have HB2 := Lib.hid hb
  clear hb
  go_wp2
  go_ret
  exact ⟨rfl, HB1.out.trans (HB2.out.mono HB1.out.size)⟩

set_option maxRecDepth 100000 in
set_option maxHeartbeats 1000000 in
theorem walk_longer (k : Int) (A B : Option Addr) (n m c d : Nat) (w : World) (ht : m ≤ maxLen) (h0 : n ≤ 100) (h : 100 < m) : Calls Try.prog 8 #[.int .i64 k, .slice A n c, .slice B m d] w (Holds w) := by
  unfold maxLen at ht
  have e1 : decide (100 < (n : Int)) = false := by simp; omega
  have e2 : decide (100 < (m : Int)) = true := by simp; omega
  go_enter Try.func8, Try.ntmps8
  go_wp2_with fail
  refine (awake_yes _).mono ?_
  rintro e w1 ⟨rfl, hb⟩
  have HB1 := Lib.hid hb
  clear hb
  go_wp2_with fail
  refine (awake_yes _).mono ?_
  rintro e w2 ⟨rfl, hb⟩
  have HB2 := Lib.hid hb
  clear hb
  go_wp2
  go_ret
  exact ⟨rfl, HB1.out.trans (HB2.out.mono HB1.out.size)⟩

/-- Two texts are one just if their lists are. -/
theorem puts_same {a b : List Int} (ha : FitsAll a) (hb : FitsAll b) (oa : putOk a = true) (ob : putOk b = true) (h : ¬ a = b) : ¬ putS a = putS b := by
  intro e
  unfold putS at e
  rw [if_pos oa, if_pos ob] at e
  have e1 := congrArg (fun x : ByteArray => x.data.toList) e
  simp at e1
  have e2 := encs_inj (nats_small ha) (nats_small hb) e1
  refine h ?_
  have h1 := nums_nats oa
  have h2 := nums_nats ob
  rw [e2, h2] at h1
  have hi : ∀ x y : Int, Value.int .i64 x = .int .i64 y → x = y := fun x y h => by injection h
  exact ((List.map_inj_right (f := Value.int .i64) hi).1 h1).symm
theorem str_ne {a b : ByteArray} (h : ¬ a = b) : (a.toList == b.toList) = false := by
  rw [beq_eq_false_iff_ne]
  intro e
  rw [ByteArray.toList_eq, ByteArray.toList_eq] at e
  exact h (ByteArray.ext (Array.toList_inj.1 e))
theorem put_lone (k : Int) (w : World) (t : TypeId) (hk : Fits k) : Calls Try.prog 10 #[.slice (some ⟨w.heap.size, 0, none⟩) 1 1] (w.alloc (.cells #[.int .i64 k] t)) fun e w' => e = .returned (.tuple #[.string (putS [k]), .bool (putOk [k])]) ∧ Below w.heap.size w w' := by
  have h := put_any [k] _ _ (by simp) (by intro x hx; obtain rfl := List.mem_singleton.1 hx; exact hk) (vals_new w [k] t)
  refine h.mono ?_
  rintro e w' ⟨he, hb⟩
  exact ⟨he, ((Below.refl w.heap.size w).alloc (Nat.le_refl _) _).trans (hb.mono (by simp))⟩
theorem lone_size (n : Nat) : (putS [(n : Int)]).size = cuts n := by
  have e : putOk [(n : Int)] = true := by simp [putOk]
  unfold putS
  rw [if_pos e, show nats [(n : Int)] = [n] by simp [nats], show encs [n] = enc n by simp [encs], ← cuts_enc]
  simp [ByteArray.size]

set_option maxRecDepth 100000 in
set_option maxHeartbeats 4000000 in
theorem walk_main (k : Int) (A B : Option Addr) (c d : Nat) (xs ys : List Int) (w : World) (hk : Fits k) (hl : xs.length ≤ 100) (hm : ys.length ≤ 100) (hx : FitsAll xs) (hy : FitsAll ys) (hv : Vals w (.slice A xs.length c) (ints xs)) (hw : Vals w (.slice B ys.length d) (ints ys)) : Calls Try.prog 8 #[.int .i64 k, .slice A xs.length c, .slice B ys.length d] w (Holds w) := by
  have e1 : decide (100 < (xs.length : Int)) = false := by simp; omega
  have e2 : decide (100 < (ys.length : Int)) = false := by simp; omega
  obtain ⟨i3, hi3, hz30, hz31, hz32⟩ := info_parts Tinfo3
  have HV := Lib.hid hv
  have HX := Lib.hid hx
  have HW := Lib.hid hw
  have HY := Lib.hid hy
  have HK := Lib.hid hk
  unfold Fits at hk
  clear hv hx hw hy
  go_enter Try.func8, Try.ntmps8
  go_wp2_with fail
  refine (awake_yes _).mono ?_
  rintro e w1 ⟨rfl, hb⟩
  have HB1 := Lib.hid hb
  clear hb
  go_wp2_with (at_builtin; go_must (refine wp_append_vals _ rfl (.tmp 29) (.tmp 30) 22 rfl w1.heap.size 3 i3 (.int .i64 0) 8 Try.underlying22 hi3 hz30 hz31 hz32 rfl (.slice (some ⟨w1.heap.size, 0, none⟩) 0 0) 0 [] rfl (World.ownsRow_made w1 #[] 0 (Nat.le_refl _) (Nat.zero_le _) rfl) (.slice A xs.length c) (ints xs) rfl ((HV.out.under HB1.out).under ((Below.refl _ _).alloc (Nat.le_refl _) _)) (ints_one _) (by rw [ints_len]; unfold maxLen; omega) (by rw [ints_len]; omega) (by simp) ?_); intro v2 w2 hown2 hgr2; have HC1 := Lib.hid (vals_copied hown2); have HD1 := Lib.hid (below_copied HB1.out hgr2); clear hown2 hgr2)
  refine (put_any xs _ _ (by omega) HX.out HC1.out).mono ?_
  rintro e w3 ⟨rfl, hb⟩
  have HB3 := Lib.hid (HD1.out.trans (hb.mono HD1.out.size))
  clear hb HC1
  obtain ⟨S, hS⟩ : ∃ S, S = putS xs := ⟨_, rfl⟩
  obtain ⟨O, hO⟩ : ∃ O, O = putOk xs := ⟨_, rfl⟩
  rw [← hS, ← hO]
  have HS := Lib.hid hS
  have HO := Lib.hid hO
  clear hS hO
  go_wp2_with (at_builtin; go_must (refine wp_append_vals _ rfl (.tmp 36) (.tmp 37) 22 rfl w3.heap.size 3 i3 (.int .i64 0) 8 Try.underlying22 hi3 hz30 hz31 hz32 rfl (.slice (some ⟨w3.heap.size, 0, none⟩) 0 0) 0 [] rfl (World.ownsRow_made w3 #[] 0 (Nat.le_refl _) (Nat.zero_le _) rfl) (.slice B ys.length d) (ints ys) rfl ((HW.out.under HB3.out).under ((Below.refl _ _).alloc (Nat.le_refl _) _)) (ints_one _) (by rw [ints_len]; unfold maxLen; omega) (by rw [ints_len]; omega) (by simp) ?_); intro v4 w4 hown2 hgr2; have HC2 := Lib.hid (vals_copied hown2); have HD2 := Lib.hid (below_copied HB3.out hgr2); clear hown2 hgr2)
  refine (put_any ys _ _ (by omega) HY.out HC2.out).mono ?_
  rintro e w5 ⟨rfl, hb⟩
  have HB5 := Lib.hid (HD2.out.trans (hb.mono HD2.out.size))
  clear hb HC2
  obtain ⟨T, hT⟩ : ∃ S, S = putS ys := ⟨_, rfl⟩
  obtain ⟨U, hU⟩ : ∃ O, O = putOk ys := ⟨_, rfl⟩
  rw [← hT, ← hU]
  have HT := Lib.hid hT
  have HU := Lib.hid hU
  clear hT hU
  have HS5 : Hid (∀ W, Below w.heap.size w W → Calls Try.prog 14 #[.slice A xs.length c, .slice B ys.length d] W fun e w' => e = .returned (.bool (sameB xs ys)) ∧ Below W.heap.size W w') := Lib.hid (fun W hW => same_any xs ys _ _ W (HV.out.under hW) (HW.out.under hW) (by omega))
  have HQ : Hid (O = true → U = true → ¬ xs = ys → ¬ S = T) := Lib.hid (fun h1 h2 => by rw [HS.out, HT.out]; exact puts_same HX.out HY.out (by rw [← HO.out, h1]) (by rw [← HU.out, h2]))
  have HQ2 : Hid (xs = ys → T = S) := Lib.hid (fun h => by rw [HS.out, HT.out, h])
  clear HS HT HO HU HV HW HX HY
  cases O
  · go_wp2_with fail
    refine (put_lone k w5 _ HK.out).mono ?_
    rintro e w7 ⟨rfl, hb⟩
    have HB7 := Lib.hid (HB5.out.trans (hb.mono HB5.out.size))
    clear hb
    by_cases hneg : k < 0
    · have e3 : putOk [k] = false := by simp [putOk]; omega
      have e4 : putS [k] = ⟨#[]⟩ := by unfold putS; rw [e3]; rfl
      rw [e3, e4]
      clear e3 e4
      go_wp2
      go_ret
      exact ⟨rfl, HB7.out⟩
    · obtain ⟨n, rfl⟩ : ∃ n : Nat, k = (n : Int) := ⟨k.toNat, by omega⟩
      have e3 : putOk [(n : Int)] = true := by simp [putOk]
      rw [e3]
      obtain ⟨Y, hY⟩ : ∃ Y, Y = putS [(n : Int)] := ⟨_, rfl⟩
      have HYS : Hid (Y.size = cuts n) := Lib.hid (by rw [hY, lone_size])
      rw [← hY]
      clear e3 hY HK
      have hcn : cuts n ≤ 9 := by rw [← cuts_enc]; exact enc_nine (by omega)
      go_wp2
      go_loop [13, 14] (fun a b => ∃ q j : Nat, q ≤ n ∧ j ≤ 9 ∧ b = .int .i64 (q : Int) ∧ a = .int .i64 (j : Int) ∧ Hid (j + cuts q = 1 + cuts n)) (fun _ b => (intOf b).toNat)
      case atStart => exact ⟨n, 1, by omega, by omega, rfl, rfl, Lib.hid rfl⟩
      case round =>
        obtain ⟨q, j, hq1, hj, rfl, rfl, HJ⟩ := hrel
        by_cases h128 : q < 128
        · have hcu : cuts q = 1 := by rw [cuts, if_pos h128]
          obtain rfl : j = Y.size := by have := HJ.out; have := HYS.out; omega
          go_wp2
          go_ret
          exact ⟨rfl, HB7.out⟩
        · have HCU : Hid (cuts q = cuts (q / 128) + 1) := Lib.hid (by rw [cuts, if_neg h128])
          have hcp : 0 < cuts (q / 128) := by rw [← cuts_enc]; exact enc_pos _
          have hj2 : j + 1 ≤ 9 := by have := HJ.out; have := HCU.out; omega
          clear hcp
          go_wp2
          go_round
          case rel => exact ⟨q / 128, j + 1, by omega, hj2, by go_num, by go_num, Lib.hid (by have := HJ.out; have := HCU.out; omega)⟩
          case measure => simp [intOf]; omega
  cases U
  · go_wp2_with fail
    refine (put_lone k w5 _ HK.out).mono ?_
    rintro e w7 ⟨rfl, hb⟩
    have HB7 := Lib.hid (HB5.out.trans (hb.mono HB5.out.size))
    clear hb
    by_cases hneg : k < 0
    · have e3 : putOk [k] = false := by simp [putOk]; omega
      have e4 : putS [k] = ⟨#[]⟩ := by unfold putS; rw [e3]; rfl
      rw [e3, e4]
      clear e3 e4
      go_wp2
      go_ret
      exact ⟨rfl, HB7.out⟩
    · obtain ⟨n, rfl⟩ : ∃ n : Nat, k = (n : Int) := ⟨k.toNat, by omega⟩
      have e3 : putOk [(n : Int)] = true := by simp [putOk]
      rw [e3]
      obtain ⟨Y, hY⟩ : ∃ Y, Y = putS [(n : Int)] := ⟨_, rfl⟩
      have HYS : Hid (Y.size = cuts n) := Lib.hid (by rw [hY, lone_size])
      rw [← hY]
      clear e3 hY HK
      have hcn : cuts n ≤ 9 := by rw [← cuts_enc]; exact enc_nine (by omega)
      go_wp2
      go_loop [13, 14] (fun a b => ∃ q j : Nat, q ≤ n ∧ j ≤ 9 ∧ b = .int .i64 (q : Int) ∧ a = .int .i64 (j : Int) ∧ Hid (j + cuts q = 1 + cuts n)) (fun _ b => (intOf b).toNat)
      case atStart => exact ⟨n, 1, by omega, by omega, rfl, rfl, Lib.hid rfl⟩
      case round =>
        obtain ⟨q, j, hq1, hj, rfl, rfl, HJ⟩ := hrel
        by_cases h128 : q < 128
        · have hcu : cuts q = 1 := by rw [cuts, if_pos h128]
          obtain rfl : j = Y.size := by have := HJ.out; have := HYS.out; omega
          go_wp2
          go_ret
          exact ⟨rfl, HB7.out⟩
        · have HCU : Hid (cuts q = cuts (q / 128) + 1) := Lib.hid (by rw [cuts, if_neg h128])
          have hcp : 0 < cuts (q / 128) := by rw [← cuts_enc]; exact enc_pos _
          have hj2 : j + 1 ≤ 9 := by have := HJ.out; have := HCU.out; omega
          clear hcp
          go_wp2
          go_round
          case rel => exact ⟨q / 128, j + 1, by omega, hj2, by go_num, by go_num, Lib.hid (by have := HJ.out; have := HCU.out; omega)⟩
          case measure => simp [intOf]; omega
  by_cases hq : xs = ys
  · have hTS := HQ2.out hq
    have HSB : Hid (sameB xs ys = true) := Lib.hid (by simp [sameB, hq])
    subst hTS
    clear hq
    rw [HSB.out] at HS5
    go_wp2_with (go_at_call 14; refine (HS5.out _ HB5.out).mono ?_; rintro e w6 ⟨rfl, hb⟩; have HB6 := Lib.hid (HB5.out.trans (hb.mono HB5.out.size)); clear hb)
    refine (put_lone k w6 _ HK.out).mono ?_
    rintro e w7 ⟨rfl, hb⟩
    have HB7 := Lib.hid (HB6.out.trans (hb.mono HB6.out.size))
    clear hb
    by_cases hneg : k < 0
    · have e3 : putOk [k] = false := by simp [putOk]; omega
      have e4 : putS [k] = ⟨#[]⟩ := by unfold putS; rw [e3]; rfl
      rw [e3, e4]
      clear e3 e4
      go_wp2
      go_ret
      exact ⟨rfl, HB7.out⟩
    · obtain ⟨n, rfl⟩ : ∃ n : Nat, k = (n : Int) := ⟨k.toNat, by omega⟩
      have e3 : putOk [(n : Int)] = true := by simp [putOk]
      rw [e3]
      obtain ⟨Y, hY⟩ : ∃ Y, Y = putS [(n : Int)] := ⟨_, rfl⟩
      have HYS : Hid (Y.size = cuts n) := Lib.hid (by rw [hY, lone_size])
      rw [← hY]
      clear e3 hY HK
      have hcn : cuts n ≤ 9 := by rw [← cuts_enc]; exact enc_nine (by omega)
      go_wp2
      go_loop [13, 14] (fun a b => ∃ q j : Nat, q ≤ n ∧ j ≤ 9 ∧ b = .int .i64 (q : Int) ∧ a = .int .i64 (j : Int) ∧ Hid (j + cuts q = 1 + cuts n)) (fun _ b => (intOf b).toNat)
      case atStart => exact ⟨n, 1, by omega, by omega, rfl, rfl, Lib.hid rfl⟩
      case round =>
        obtain ⟨q, j, hq1, hj, rfl, rfl, HJ⟩ := hrel
        by_cases h128 : q < 128
        · have hcu : cuts q = 1 := by rw [cuts, if_pos h128]
          obtain rfl : j = Y.size := by have := HJ.out; have := HYS.out; omega
          go_wp2
          go_ret
          exact ⟨rfl, HB7.out⟩
        · have HCU : Hid (cuts q = cuts (q / 128) + 1) := Lib.hid (by rw [cuts, if_neg h128])
          have hcp : 0 < cuts (q / 128) := by rw [← cuts_enc]; exact enc_pos _
          have hj2 : j + 1 ≤ 9 := by have := HJ.out; have := HCU.out; omega
          clear hcp
          go_wp2
          go_round
          case rel => exact ⟨q / 128, j + 1, by omega, hj2, by go_num, by go_num, Lib.hid (by have := HJ.out; have := HCU.out; omega)⟩
          case measure => simp [intOf]; omega
  · have hne := str_ne (HQ.out rfl rfl hq)
    have HSB : Hid (sameB xs ys = false) := Lib.hid (by simp [sameB, hq])
    clear hq
    rw [HSB.out] at HS5
    go_wp2_with (go_at_call 14; refine (HS5.out _ HB5.out).mono ?_; rintro e w6 ⟨rfl, hb⟩; have HB6 := Lib.hid (HB5.out.trans (hb.mono HB5.out.size)); clear hb)
    refine (put_lone k w6 _ HK.out).mono ?_
    rintro e w7 ⟨rfl, hb⟩
    have HB7 := Lib.hid (HB6.out.trans (hb.mono HB6.out.size))
    clear hb
    by_cases hneg : k < 0
    · have e3 : putOk [k] = false := by simp [putOk]; omega
      have e4 : putS [k] = ⟨#[]⟩ := by unfold putS; rw [e3]; rfl
      rw [e3, e4]
      clear e3 e4
      go_wp2
      go_ret
      exact ⟨rfl, HB7.out⟩
    · obtain ⟨n, rfl⟩ : ∃ n : Nat, k = (n : Int) := ⟨k.toNat, by omega⟩
      have e3 : putOk [(n : Int)] = true := by simp [putOk]
      rw [e3]
      obtain ⟨Y, hY⟩ : ∃ Y, Y = putS [(n : Int)] := ⟨_, rfl⟩
      have HYS : Hid (Y.size = cuts n) := Lib.hid (by rw [hY, lone_size])
      rw [← hY]
      clear e3 hY HK
      have hcn : cuts n ≤ 9 := by rw [← cuts_enc]; exact enc_nine (by omega)
      go_wp2
      go_loop [13, 14] (fun a b => ∃ q j : Nat, q ≤ n ∧ j ≤ 9 ∧ b = .int .i64 (q : Int) ∧ a = .int .i64 (j : Int) ∧ Hid (j + cuts q = 1 + cuts n)) (fun _ b => (intOf b).toNat)
      case atStart => exact ⟨n, 1, by omega, by omega, rfl, rfl, Lib.hid rfl⟩
      case round =>
        obtain ⟨q, j, hq1, hj, rfl, rfl, HJ⟩ := hrel
        by_cases h128 : q < 128
        · have hcu : cuts q = 1 := by rw [cuts, if_pos h128]
          obtain rfl : j = Y.size := by have := HJ.out; have := HYS.out; omega
          go_wp2
          go_ret
          exact ⟨rfl, HB7.out⟩
        · have HCU : Hid (cuts q = cuts (q / 128) + 1) := Lib.hid (by rw [cuts, if_neg h128])
          have hcp : 0 < cuts (q / 128) := by rw [← cuts_enc]; exact enc_pos _
          have hj2 : j + 1 ≤ 9 := by have := HJ.out; have := HCU.out; omega
          clear hcp
          go_wp2
          go_round
          case rel => exact ⟨q / 128, j + 1, by omega, hj2, by go_num, by go_num, Lib.hid (by have := HJ.out; have := HCU.out; omega)⟩
          case measure => simp [intOf]; omega

theorem walk (k : Int) (v u : Value) (xs ys : List Int) (w : World) (hk : Fits k) (hl : xs.length ≤ maxLen) (hv : Vals w v (ints xs)) (hx : FitsAll xs) (hm : ys.length ≤ maxLen) (hw : Vals w u (ints ys)) (hy : FitsAll ys) : Calls Try.prog 8 #[.int .i64 k, v, u] w (Holds w) := by
  obtain ⟨A, c, h⟩ := hv.slice
  obtain ⟨B, d, h'⟩ := hw.slice
  rw [ints_len] at h h'
  subst h h'
  by_cases h : 100 < xs.length
  · exact walk_long k A B _ _ c d w hl h
  · by_cases h' : 100 < ys.length
    · exact walk_longer k A B _ _ c d w hm (by omega) h'
    · exact walk_main k A B c d xs ys w hk (by omega) (by omega) hx hy hv hw

/-! From the walk to the given row. -/
set_option maxRecDepth 100000 in
theorem lifted (os : Os) (started : os.Started) (H : Type) (enc : TypeId × Value → H) :
    ReturnsInHanded {} Try.checked os 8 .any (Rows.codeSizesSpec.pre6 enc Try.prog Try.f8 Rows.codeSizesRow.domain false) (Rows.codeSizesSpec.post enc Try.prog Try.f8 false true false false) := by
  refine returnsInHanded_of_change (C := Try.checked) t_own started (by kernel_rfl) Try.func8
    (ChangeSpec.witness6 (enc := enc) (C := Try.checked) false ⟨#[], #[.int .i64 0, .slice none 0 0, .slice none 0 0], []⟩ 8 (by kernel_rfl) (by kernel_rfl) (by kernel_rfl) (by kernel_rfl)) ?_
  intro W base args ds gs before hval0 hW hcnd _
  have hval : ∀ (j : Nat) t v, Try.f8.params[j]? = some t → args[j]? = some v → Value.okWide Try.prog W .any base t v := hval0
  have hW' := hW
  obtain ⟨p, q, hA0, hV, rfl, hfz, hnd⟩ := hW
  have hA : DataW.TrodAll enc Try.prog W 0 (fun _ => true) true Try.f8.params.toList args.toList ds p := hA0
  rw [Try.params8] at hA hval
  obtain ⟨v0, vs0, d0, ds0, p0, q0, hargs, rfl, rfl, h0, r0⟩ := trodAll_cons hA
  obtain ⟨v1, vs1, d1, ds1, p1, q1, rfl, rfl, rfl, h1, r1⟩ := trodAll_cons r0
  obtain ⟨v2, vs2, d2, ds2, p2, q2, rfl, rfl, rfl, h2, r2⟩ := trodAll_cons r1
  obtain ⟨rfl, rfl, rfl⟩ := trodAll_nil r2
  obtain rfl : args = #[v0, v1, v2] := by cases args; simp_all
  obtain ⟨k, rfl, rfl, rfl, hk⟩ := open_int Try.underlying3 (hval 0 3 v0 rfl rfl) h0
  obtain ⟨xs, hl, hv, hx⟩ := open_nums (hval 1 22 v1 rfl rfl) h1
  obtain ⟨ys, hm, hw, hy⟩ := open_nums (hval 2 22 v2 rfl rfl) h2
  refine (walk k v1 v2 xs ys W (bounds_i64 hk) hl hv hx hm hw hy).mono fun e W' ⟨he, hb⟩ => ?_
  subst he
  exact ⟨_, rfl, post_of_holds hW' (by kernel_rfl) rfl (by rw [Try.params8]; exact fun t ht => params_ok t (by simp at ht; rcases ht with rfl | rfl <;> simp)) ⟨rfl, rfl, rfl⟩ hb⟩

/-- The given statement. -/
theorem proved : Rows.CodeSizesSaid :=
  OpenClaim.holds_of_wide 8 Try.f8 rfl rfl rfl rfl rfl rfl rfl ⟨rfl, rfl, rfl, rfl, rfl⟩ rfl rfl rfl rfl rfl (by kernel_rfl) Try.func8 (by kernel_rfl)
    (of_decide_eq_true (by kernel_rfl)) (by unfold Func.isWrapper; first | (rw [if_pos (by decide +kernel)]; kernel_rfl) | (rw [if_neg (by decide +kernel)]; exact ⟨rfl, rfl⟩))
    (fun os started H enc _ => lifted os started H enc)
#print axioms proved
end Go.Proofs.Yteefeloganaagaa.codeSizes

