/-
  switchback's CodeParts: two lists' bytes, one behind the other, are those of both lists; bytes that end within a number are wrong with nothing behind them alone. For every input the call returns true, and each argument reads afterwards as it read before. No condition.
-/
import Derived.Test.YteefeloganaagaaLift
namespace Go.Proofs.Yteefeloganaagaa.codeParts
open Go.ChangeShapes Go.WideShapes Go.ChangeAt Go.RowKit

set_option maxRecDepth 100000 in
set_option maxHeartbeats 1000000 in
theorem walk_long (A B : Option Addr) (n m c d : Nat) (w : World) (hs : n ≤ maxLen) (h : 200 < n) : Calls Try.prog 7 #[.slice A n c, .slice B m d] w (Holds w) := by
  unfold maxLen at hs
  have e1 : decide (200 < (n : Int)) = true := by simp; omega
  go_enter Try.func7, Try.ntmps7
  go_wp2_with fail
  refine (awake_yes _).mono ?_
  rintro e w1 ⟨rfl, hb⟩
  have HB1 := Lib.hid hb
  clear hb
  go_wp2_with fail
  refine (awake_yes _).mono ?_
  rintro e w2 ⟨rfl, hb⟩
  have HB2 := Lib.hid hb
  clear hb
  go_wp2
  go_ret
  exact ⟨rfl, HB1.out.trans (HB2.out.mono HB1.out.size)⟩

set_option maxRecDepth 100000 in
set_option maxHeartbeats 1000000 in
theorem walk_longer (A B : Option Addr) (n m c d : Nat) (w : World) (ht : m ≤ maxLen) (h0 : n ≤ 200) (h : 200 < m) : Calls Try.prog 7 #[.slice A n c, .slice B m d] w (Holds w) := by
  unfold maxLen at ht
  have e1 : decide (200 < (n : Int)) = false := by simp; omega
  have e2 : decide (200 < (m : Int)) = true := by simp; omega
  go_enter Try.func7, Try.ntmps7
  go_wp2_with fail
  refine (awake_yes _).mono ?_
  rintro e w1 ⟨rfl, hb⟩
  have HB1 := Lib.hid hb
  clear hb
  go_wp2_with fail
  refine (awake_yes _).mono ?_
  rintro e w2 ⟨rfl, hb⟩
  have HB2 := Lib.hid hb
  clear hb
  go_wp2
  go_ret
  exact ⟨rfl, HB1.out.trans (HB2.out.mono HB1.out.size)⟩

theorem vals_joined {w : World} {B n : Nat} {v : Value} {xs ys : List Int} (h : w.ownsRow B 3 1 v n ([] ++ ints xs ++ ints ys)) : Vals w v (ints (xs ++ ys)) := by
  have e : [] ++ ints xs ++ ints ys = ints (xs ++ ys) := by simp [ints]
  rw [e] at h
  exact Vals.of_own h

theorem text_list (l : List UInt8) : (⟨l.toArray⟩ : ByteArray).data.toList = l := by simp
theorem text_add (a b : List UInt8) : (⟨a.toArray⟩ : ByteArray) ++ ⟨b.toArray⟩ = ⟨(a ++ b).toArray⟩ := by
  apply ByteArray.ext
  rw [ByteArray.data_append]
  simp
theorem nats_append (a b : List Int) : nats (a ++ b) = nats a ++ nats b := by simp [nats]
theorem ok_append {a b : List Int} (ha : putOk a = true) (hb : putOk b = true) : putOk (a ++ b) = true := by
  unfold putOk at *
  rw [List.all_append, ha, hb]
  rfl
theorem fits_append {a b : List Int} (ha : FitsAll a) (hb : FitsAll b) : FitsAll (a ++ b) := fun x hx => by
  rcases List.mem_append.1 hx with h | h
  · exact ha x h
  · exact hb x h
theorem put_append {a b : List Int} (ha : putOk a = true) (hb : putOk b = true) : putS (a ++ b) = putS a ++ putS b := by
  unfold putS
  rw [if_pos (ok_append ha hb), if_pos ha, if_pos hb, text_add, nats_append, encs_append]
/-- What is got of two lists' bytes and 80. -/
theorem gets_cut {a b : List Int} (ha : FitsAll a) (hb : FitsAll b) (oa : putOk a = true) (ob : putOk b = true) : gets [] (putS a ++ putS b ++ ⟨#[128]⟩).data.toList = (4, []) := by
  rw [← put_append oa ob]
  unfold putS
  rw [if_pos (ok_append oa ob), show (⟨#[128]⟩ : ByteArray) = ⟨([128] : List UInt8).toArray⟩ from rfl, text_add, text_list, gets_encs _ _ (nats_small (fits_append ha hb)), gets_err (by simp) (by decide)]
  rfl
/-- What is got of two lists' bytes, 80 and 01. -/
theorem gets_more {a b : List Int} (ha : FitsAll a) (hb : FitsAll b) (oa : putOk a = true) (ob : putOk b = true) : gets [] (putS a ++ putS b ++ ⟨#[128, 1]⟩).data.toList = (0, nats (a ++ b) ++ [128]) := by
  have e1 : enc 128 = [128, 1] := by rw [enc_high (by omega), enc_low (by omega)]; rfl
  have e2 : encs (nats (a ++ b)) ++ [128, 1] = encs (nats (a ++ b) ++ [128]) := by rw [encs_snoc, e1]
  rw [← put_append oa ob]
  unfold putS
  rw [if_pos (ok_append oa ob), show (⟨#[128, 1]⟩ : ByteArray) = ⟨([128, 1] : List UInt8).toArray⟩ from rfl, text_add, text_list, e2, gets_back]
  intro n hn
  rcases List.mem_append.1 hn with h | h
  · exact nats_small (fits_append ha hb) n h
  · simp at h; omega
theorem putS_size {a : List Int} (ha : FitsAll a) : (putS a).size ≤ 9 * a.length := by
  unfold putS
  split
  · have := (encs_len (nats_small ha)).2
    rw [nats_len] at this
    simpa [ByteArray.size] using this
  · simp [ByteArray.size]

set_option maxRecDepth 100000 in
set_option maxHeartbeats 2000000 in
theorem walk_main (A B : Option Addr) (c d : Nat) (xs ys : List Int) (w : World) (hl : xs.length ≤ 200) (hm : ys.length ≤ 200) (hx : FitsAll xs) (hy : FitsAll ys) (hv : Vals w (.slice A xs.length c) (ints xs)) (hw : Vals w (.slice B ys.length d) (ints ys)) : Calls Try.prog 7 #[.slice A xs.length c, .slice B ys.length d] w (Holds w) := by
  have e1 : decide (200 < (xs.length : Int)) = false := by simp; omega
  have e2 : decide (200 < (ys.length : Int)) = false := by simp; omega
  obtain ⟨i3, hi3, hz30, hz31, hz32⟩ := info_parts Tinfo3
  have HV := Lib.hid hv
  have HX := Lib.hid hx
  have HW := Lib.hid hw
  have HY := Lib.hid hy
  clear hv hx hw hy
  go_enter Try.func7, Try.ntmps7
  go_wp2_with fail
  refine (awake_yes _).mono ?_
  rintro e w1 ⟨rfl, hb⟩
  have HB1 := Lib.hid hb
  clear hb
  go_wp2_with (at_builtin; go_must (refine wp_append_vals _ rfl (.tmp 29) (.tmp 30) 22 rfl w1.heap.size 3 i3 (.int .i64 0) 8 Try.underlying22 hi3 hz30 hz31 hz32 rfl (.slice (some ⟨w1.heap.size, 0, none⟩) 0 0) 0 [] rfl (World.ownsRow_made w1 #[] 0 (Nat.le_refl _) (Nat.zero_le _) rfl) (.slice A xs.length c) (ints xs) rfl ((HV.out.under HB1.out).under ((Below.refl _ _).alloc (Nat.le_refl _) _)) (ints_one _) (by rw [ints_len]; unfold maxLen; omega) (by rw [ints_len]; omega) (by simp) ?_); intro v2 w2 hown2 hgr2; have HC1 := Lib.hid (vals_copied hown2); have HD1 := Lib.hid (below_copied HB1.out hgr2); clear hown2 hgr2)
  refine (put_any xs _ _ (by omega) HX.out HC1.out).mono ?_
  rintro e w3 ⟨rfl, hb⟩
  have HB3 := Lib.hid (HD1.out.trans (hb.mono HD1.out.size))
  clear hb HC1
  obtain ⟨S, hS⟩ : ∃ S, S = putS xs := ⟨_, rfl⟩
  obtain ⟨O, hO⟩ : ∃ O, O = putOk xs := ⟨_, rfl⟩
  rw [← hS, ← hO]
  have HS := Lib.hid hS
  have HO := Lib.hid hO
  clear hS hO
  go_wp2_with (at_builtin; go_must (refine wp_append_vals _ rfl (.tmp 36) (.tmp 37) 22 rfl w3.heap.size 3 i3 (.int .i64 0) 8 Try.underlying22 hi3 hz30 hz31 hz32 rfl (.slice (some ⟨w3.heap.size, 0, none⟩) 0 0) 0 [] rfl (World.ownsRow_made w3 #[] 0 (Nat.le_refl _) (Nat.zero_le _) rfl) (.slice B ys.length d) (ints ys) rfl ((HW.out.under HB3.out).under ((Below.refl _ _).alloc (Nat.le_refl _) _)) (ints_one _) (by rw [ints_len]; unfold maxLen; omega) (by rw [ints_len]; omega) (by simp) ?_); intro v4 w4 hown2 hgr2; have HC2 := Lib.hid (vals_copied hown2); have HD2 := Lib.hid (below_copied HB3.out hgr2); clear hown2 hgr2)
  refine (put_any ys _ _ (by omega) HY.out HC2.out).mono ?_
  rintro e w5 ⟨rfl, hb⟩
  have HB5 := Lib.hid (HD2.out.trans (hb.mono HD2.out.size))
  clear hb HC2
  obtain ⟨T, hT⟩ : ∃ S, S = putS ys := ⟨_, rfl⟩
  obtain ⟨U, hU⟩ : ∃ O, O = putOk ys := ⟨_, rfl⟩
  rw [← hT, ← hU]
  have HT := Lib.hid hT
  have HU := Lib.hid hU
  clear hT hU
  cases O
  · go_wp2
    go_ret
    exact ⟨rfl, HB5.out⟩
  cases U
  · go_wp2
    go_ret
    exact ⟨rfl, HB5.out⟩
  have HZ : Hid (∀ W u, Vals W u (ints (xs ++ ys)) → Calls Try.prog 10 #[u] W fun e w' => e = .returned (.tuple #[.string (S ++ T), .bool true]) ∧ Below W.heap.size W w') := Lib.hid (fun W u hu => by
    have h1 := put_any (xs ++ ys) u W (by simp; omega) (fits_append HX.out HY.out) hu
    rw [put_append HO.out.symm HU.out.symm, ok_append HO.out.symm HU.out.symm, ← HS.out, ← HT.out] at h1
    exact h1)
  have hss : S.size ≤ 1800 := by rw [HS.out]; have := putS_size HX.out; omega
  have hts : T.size ≤ 1800 := by rw [HT.out]; have := putS_size HY.out; omega
  have HG1 : Hid (∀ W, Calls Try.prog 12 #[.string (S ++ T ++ ⟨#[128]⟩)] W fun e w' => ∃ u, e = .returned (.tuple #[u, .int .i64 4]) ∧ Below W.heap.size W w') := Lib.hid (fun W => by
    refine (get_any _ W (by rw [ByteArray.size_append, ByteArray.size_append, show (⟨#[128]⟩ : ByteArray).size = 1 from rfl]; omega)).mono ?_
    rintro e w' ⟨u, he, _, hb⟩
    rw [HS.out, HT.out, gets_cut HX.out HY.out HO.out.symm HU.out.symm] at he
    exact ⟨u, he, hb⟩)
  have HG2 : Hid (∀ W, Calls Try.prog 12 #[.string (S ++ T ++ ⟨#[128, 1]⟩)] W fun e w' => ∃ b off c, e = .returned (.tuple #[.slice (some ⟨b, off, none⟩) (xs.length + ys.length + 1) c, .int .i64 0]) ∧ w'.cell? ⟨b, off + (xs.length + ys.length), none⟩ = some (.int .i64 128) ∧ Below W.heap.size W w') := Lib.hid (fun W => by
    refine (get_any _ W (by rw [ByteArray.size_append, ByteArray.size_append, show (⟨#[128, 1]⟩ : ByteArray).size = 2 from rfl]; omega)).mono ?_
    rintro e w' ⟨u, he, ho, hb⟩
    rw [HS.out, HT.out, gets_more HX.out HY.out HO.out.symm HU.out.symm] at he ho
    have hle : (nums (nats (xs ++ ys) ++ [128])).length = xs.length + ys.length + 1 := by rw [nums_len, List.length_append, nats_len]; simp
    have hv : Vals w' u (nums (nats (xs ++ ys) ++ [128])) := Vals.of_own ho
    obtain ⟨b, off, c, hu, _, _, hcell⟩ := hv.full (by omega)
    rw [hle] at hu
    refine ⟨b, off, c, by rw [he, hu]; rfl, hcell _ _ ?_, hb⟩
    rw [nums_snoc, List.getElem?_append_right (by rw [nums_len, nats_len]; simp), nums_len, nats_len]
    simp)
  clear HS HT HO HU
  go_wp2_with (first | (at_builtin; refine wp_append_vals _ rfl (.tmp 49) (.tmp 50) 22 rfl w5.heap.size 3 i3 (.int .i64 0) 8 Try.underlying22 hi3 hz30 hz31 hz32 rfl (.slice (some ⟨w5.heap.size, 0, none⟩) 0 0) 0 [] rfl (World.ownsRow_made w5 #[] 0 (Nat.le_refl _) (Nat.zero_le _) rfl) (.slice A xs.length c) (ints xs) rfl ((HV.out.under HB5.out).under ((Below.refl _ _).alloc (Nat.le_refl _) _)) (ints_one _) (by rw [ints_len]; unfold maxLen; omega) (by rw [ints_len]; omega) (by simp) ?_; intro v6 w6 hown6 hgr6; have HO6 := Lib.hid hown6; have HD6 := Lib.hid (below_copied HB5.out hgr6); have HS6 := Lib.hid (Nat.le_trans (by simp) hgr6.size : w5.heap.size ≤ w6.heap.size); clear hown6 hgr6) | (at_builtin; go_must (refine wp_append_vals _ rfl (.tmp 51) (.tmp 52) 22 rfl w5.heap.size 3 i3 (.int .i64 0) 8 Try.underlying22 hi3 hz30 hz31 hz32 rfl v6 (0 + (ints xs).length) ([] ++ ints xs) rfl HO6.out (.slice B ys.length d) (ints ys) rfl (HW.out.under HD6.out) (ints_one _) (by rw [ints_len, ints_len]; unfold maxLen; omega) (by rw [ints_len, ints_len]; omega) (by have := HS6.out; omega) ?_); intro v7 w7 hown7 hgr7; have HC7 := Lib.hid (vals_joined hown7); have HD7 := Lib.hid (below_grown HD6.out hgr7 (fun k hk => by have := (own_lt HO6.out k hk).1; have := HB5.out.size; omega) (Nat.le_refl _)); clear hown7 hgr7))
  refine (HZ.out _ _ HC7.out).mono ?_
  rintro e w8 ⟨rfl, hb⟩
  have HB8 := Lib.hid (HD7.out.trans (hb.mono HD7.out.size))
  clear hb HC7 HO6 HS6 HD6 HD7
  go_wp2_with fail
  refine (HG1.out _).mono ?_
  rintro e w9 ⟨u9, rfl, hb⟩
  have HB9 := Lib.hid (HB8.out.trans (hb.mono HB8.out.size))
  clear hb
  go_wp2_with fail
  refine (HG2.out _).mono ?_
  rintro e w10 ⟨b, off, c10, rfl, hcell, hb⟩
  have HB10 := Lib.hid (HB9.out.trans (hb.mono HB9.out.size))
  clear hb
  go_wp2
  go_ret
  exact ⟨rfl, HB10.out⟩

theorem walk (v u : Value) (xs ys : List Int) (w : World) (hl : xs.length ≤ maxLen) (hv : Vals w v (ints xs)) (hx : FitsAll xs) (hm : ys.length ≤ maxLen) (hw : Vals w u (ints ys)) (hy : FitsAll ys) : Calls Try.prog 7 #[v, u] w (Holds w) := by
  obtain ⟨A, c, h⟩ := hv.slice
  obtain ⟨B, d, h'⟩ := hw.slice
  rw [ints_len] at h h'
  subst h h'
  by_cases h : 200 < xs.length
  · exact walk_long A B _ _ c d w hl h
  · by_cases h' : 200 < ys.length
    · exact walk_longer A B _ _ c d w hm (by omega) h'
    · exact walk_main A B c d xs ys w (by omega) (by omega) hx hy hv hw

/-! From the walk to the given row. -/
set_option maxRecDepth 100000 in
theorem lifted (os : Os) (started : os.Started) (H : Type) (enc : TypeId × Value → H) :
    ReturnsInHanded {} Try.checked os 7 .any (Rows.codePartsSpec.pre6 enc Try.prog Try.f7 Rows.codePartsRow.domain false) (Rows.codePartsSpec.post enc Try.prog Try.f7 false true false false) := by
  refine returnsInHanded_of_change (C := Try.checked) t_own started (by kernel_rfl) Try.func7
    (ChangeSpec.witness6 (enc := enc) (C := Try.checked) false ⟨#[], #[.slice none 0 0, .slice none 0 0], []⟩ 8 (by kernel_rfl) (by kernel_rfl) (by kernel_rfl) (by kernel_rfl)) ?_
  intro W base args ds gs before hval0 hW hcnd _
  have hval : ∀ (j : Nat) t v, Try.f7.params[j]? = some t → args[j]? = some v → Value.okWide Try.prog W .any base t v := hval0
  have hW' := hW
  obtain ⟨p, q, hA0, hV, rfl, hfz, hnd⟩ := hW
  have hA : DataW.TrodAll enc Try.prog W 0 (fun _ => true) true Try.f7.params.toList args.toList ds p := hA0
  rw [Try.params7] at hA hval
  obtain ⟨v0, vs0, d0, ds0, p0, q0, hargs, rfl, rfl, h0, r0⟩ := trodAll_cons hA
  obtain ⟨v1, vs1, d1, ds1, p1, q1, rfl, rfl, rfl, h1, r1⟩ := trodAll_cons r0
  obtain ⟨rfl, rfl, rfl⟩ := trodAll_nil r1
  obtain rfl : args = #[v0, v1] := by cases args; simp_all
  obtain ⟨xs, hl, hv, hx⟩ := open_nums (hval 0 22 v0 rfl rfl) h0
  obtain ⟨ys, hm, hw, hy⟩ := open_nums (hval 1 22 v1 rfl rfl) h1
  refine (walk v0 v1 xs ys W hl hv hx hm hw hy).mono fun e W' ⟨he, hb⟩ => ?_
  subst he
  exact ⟨_, rfl, post_of_holds hW' (by kernel_rfl) rfl (by rw [Try.params7]; exact fun t ht => params_ok t (by simp at ht; rcases ht with rfl <;> simp)) ⟨rfl, rfl, rfl⟩ hb⟩

/-- The given statement. -/
theorem proved : Rows.CodePartsSaid :=
  OpenClaim.holds_of_wide 7 Try.f7 rfl rfl rfl rfl rfl rfl rfl ⟨rfl, rfl, rfl, rfl, rfl⟩ rfl rfl rfl rfl rfl (by kernel_rfl) Try.func7 (by kernel_rfl)
    (of_decide_eq_true (by kernel_rfl)) (by unfold Func.isWrapper; first | (rw [if_pos (by decide +kernel)]; kernel_rfl) | (rw [if_neg (by decide +kernel)]; exact ⟨rfl, rfl⟩))
    (fun os started H enc _ => lifted os started H enc)
#print axioms proved
end Go.Proofs.Yteefeloganaagaa.codeParts

