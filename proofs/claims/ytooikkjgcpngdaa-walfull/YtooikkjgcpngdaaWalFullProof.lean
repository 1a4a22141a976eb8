/-
  switchback's WalFull: what is too long, or has no room, changes nothing. For every input the call returns true, and each argument reads afterwards as it read before. No condition.
-/
import Derived.Test.YtooikkjgcpngdaaLift
namespace Go.Proofs.Ytooikkjgcpngdaa.walFull
open Go.ChangeShapes Go.WideShapes Go.ChangeAt Go.RowKit
open Fr (Rec secB valL lenV)

set_option maxRecDepth 100000 in
set_option maxHeartbeats 4000000 in
theorem walk_long0 (n : Int) (s : ByteArray) (w : World) (h1 : n < 0) : Calls Try.prog 6 #[.int .i64 n, .string s] w (Holds w) := by
  have e1 : decide (n < 0) = true := by simp; omega
  go_enter Try.func6, Try.ntmps6
  go_wp2_with fail
  refine (new_any _).mono ?_
  rintro e w1 ⟨f, rfl, hg, hz, hb⟩
  have HB1 := Lib.hid hb
  have HZ1 := Lib.hid hz
  have HG := Lib.hid hg
  clear hz hb hg
  go_wp2_with fail
  refine (awake_yes _).mono ?_
  rintro e w2 ⟨rfl, hb⟩
  have HB2 := Lib.hid (HB1.out.trans (hb.mono HB1.out.size))
  have HZ2 := Lib.hid (HZ1.out.under hb HZ1.out.lt)
  clear hb HZ1
  go_wp2_with fail
  refine (awake_yes _).mono ?_
  rintro e w3 ⟨rfl, hb⟩
  have HB3 := Lib.hid (HB2.out.trans (hb.mono HB2.out.size))
  clear hb
  go_wp2
  go_ret
  exact ⟨rfl, HB3.out⟩

set_option maxRecDepth 100000 in
set_option maxHeartbeats 4000000 in
theorem walk_long1 (n : Int) (s : ByteArray) (w : World) (h1 : 0 ≤ n) (h2 : 30 < n) : Calls Try.prog 6 #[.int .i64 n, .string s] w (Holds w) := by
  have e1 : decide (n < 0) = false := by simp; omega
  have e2 : decide (30 < n) = true := by simp; omega
  go_enter Try.func6, Try.ntmps6
  go_wp2_with fail
  refine (new_any _).mono ?_
  rintro e w1 ⟨f, rfl, hg, hz, hb⟩
  have HB1 := Lib.hid hb
  have HZ1 := Lib.hid hz
  have HG := Lib.hid hg
  clear hz hb hg
  go_wp2_with fail
  refine (awake_yes _).mono ?_
  rintro e w2 ⟨rfl, hb⟩
  have HB2 := Lib.hid (HB1.out.trans (hb.mono HB1.out.size))
  have HZ2 := Lib.hid (HZ1.out.under hb HZ1.out.lt)
  clear hb HZ1
  go_wp2_with fail
  refine (awake_yes _).mono ?_
  rintro e w3 ⟨rfl, hb⟩
  have HB3 := Lib.hid (HB2.out.trans (hb.mono HB2.out.size))
  clear hb
  go_wp2
  go_ret
  exact ⟨rfl, HB3.out⟩

set_option maxRecDepth 100000 in
set_option maxHeartbeats 4000000 in
theorem walk_long2 (n : Int) (s : ByteArray) (w : World) (h1 : 0 ≤ n) (h2 : n ≤ 30) (h3 : s.size < 115) : Calls Try.prog 6 #[.int .i64 n, .string s] w (Holds w) := by
  have e1 : decide (n < 0) = false := by simp; omega
  have e2 : decide (30 < n) = false := by simp; omega
  have e3 : decide ((s.size : Int) < 115) = true := by simp; omega
  go_enter Try.func6, Try.ntmps6
  go_wp2_with fail
  refine (new_any _).mono ?_
  rintro e w1 ⟨f, rfl, hg, hz, hb⟩
  have HB1 := Lib.hid hb
  have HZ1 := Lib.hid hz
  have HG := Lib.hid hg
  clear hz hb hg
  go_wp2_with fail
  refine (awake_yes _).mono ?_
  rintro e w2 ⟨rfl, hb⟩
  have HB2 := Lib.hid (HB1.out.trans (hb.mono HB1.out.size))
  have HZ2 := Lib.hid (HZ1.out.under hb HZ1.out.lt)
  clear hb HZ1
  go_wp2_with fail
  refine (awake_yes _).mono ?_
  rintro e w3 ⟨rfl, hb⟩
  have HB3 := Lib.hid (HB2.out.trans (hb.mono HB2.out.size))
  clear hb
  go_wp2
  go_ret
  exact ⟨rfl, HB3.out⟩

set_option maxRecDepth 100000 in
set_option maxHeartbeats 4000000 in
theorem walk_long3 (n : Int) (s : ByteArray) (w : World) (hs : s.size ≤ maxLen) (h1 : 0 ≤ n) (h2 : n ≤ 30) (h3 : 115 ≤ s.size) (h4 : 1000 < s.size) : Calls Try.prog 6 #[.int .i64 n, .string s] w (Holds w) := by
  unfold maxLen at hs
  have e1 : decide (n < 0) = false := by simp; omega
  have e2 : decide (30 < n) = false := by simp; omega
  have e3 : decide ((s.size : Int) < 115) = false := by simp; omega
  have e4 : decide (1000 < (s.size : Int)) = true := by simp; omega
  go_enter Try.func6, Try.ntmps6
  go_wp2_with fail
  refine (new_any _).mono ?_
  rintro e w1 ⟨f, rfl, hg, hz, hb⟩
  have HB1 := Lib.hid hb
  have HZ1 := Lib.hid hz
  have HG := Lib.hid hg
  clear hz hb hg
  go_wp2_with fail
  refine (awake_yes _).mono ?_
  rintro e w2 ⟨rfl, hb⟩
  have HB2 := Lib.hid (HB1.out.trans (hb.mono HB1.out.size))
  have HZ2 := Lib.hid (HZ1.out.under hb HZ1.out.lt)
  clear hb HZ1
  go_wp2_with fail
  refine (awake_yes _).mono ?_
  rintro e w3 ⟨rfl, hb⟩
  have HB3 := Lib.hid (HB2.out.trans (hb.mono HB2.out.size))
  clear hb
  go_wp2
  go_ret
  exact ⟨rfl, HB3.out⟩

/-- Append and Checkpoint of a text that is too long, Append where there is no room. -/
theorem app5 {P : Nat → Prop} {w : World} {B d f v n : Nat} {fu : Fu} {s : Dk} {l : Lg} (t : ByteArray) (hts : t.size ≤ maxLen) (h : LogP w B P d f s fu v l n) (hn : n < 800000) (hB : B ≤ w.heap.size) (h1 : s.size < t.size + 14) : Calls Try.prog 15 #[.pointer (some ⟨v, 0, none⟩), .string t] w (LogQ w B P d f s fu v l (n + 2) 5) := by
  have h2 := lappend t hts h hn hB
  unfold acode alog at h2
  rw [if_pos h1, if_pos h1] at h2
  exact h2
theorem chk5 {P : Nat → Prop} {w : World} {B d f v n : Nat} {fu : Fu} {s : Dk} {l : Lg} (t : ByteArray) (hts : t.size ≤ maxLen) (h : LogP w B P d f s fu v l n) (hn : n < 700000) (hB : B ≤ w.heap.size) (h1 : s.size < t.size + 14) : Calls Try.prog 17 #[.pointer (some ⟨v, 0, none⟩), .string t] w (LogQ w B P d f s fu v l (n + 4) 5) := by
  have h2 := lcheck t hts h hn hB
  unfold ccode clog at h2
  rw [if_pos h1, if_pos h1] at h2
  exact h2
theorem app3 {P : Nat → Prop} {w : World} {B d f v n : Nat} {fu : Fu} {s : Dk} {l : Lg} (t : ByteArray) (hts : t.size ≤ maxLen) (h : LogP w B P d f s fu v l n) (hn : n < 800000) (hB : B ≤ w.heap.size) (h1 : t.size + 14 ≤ s.size) (h0 : s.half ≤ l.list.length + 1) : Calls Try.prog 15 #[.pointer (some ⟨v, 0, none⟩), .string t] w (LogQ w B P d f s fu v l (n + 2) 3) := by
  have h2 := lappend t hts h hn hB
  unfold acode alog at h2
  rw [if_neg (by omega), if_pos h0, if_neg (by omega), if_pos h0] at h2
  exact h2
theorem keeps_gen (z m : Nat) (l : Lg) (t : ByteArray) : (alogZ z m l t).gen = l.gen := by
  unfold alogZ
  split
  · rfl
  · split <;> rfl

set_option maxRecDepth 100000 in
set_option maxHeartbeats 4000000 in
theorem walk_main (n : Int) (s : ByteArray) (w : World) (h1 : 0 ≤ n) (h2 : n ≤ 30) (h3 : 115 ≤ s.size) (h4 : s.size ≤ 1000) : Calls Try.prog 6 #[.int .i64 n, .string s] w (Holds w) := by
  have e1 : decide (n < 0) = false := by simp; omega
  have e2 : decide (30 < n) = false := by simp; omega
  have e3 : decide ((s.size : Int) < 115) = false := by simp; omega
  have e4 : decide (1000 < (s.size : Int)) = false := by simp; omega
  obtain ⟨N, rfl⟩ : ∃ N : Nat, n = (N : Int) := ⟨n.toNat, by omega⟩
  go_enter Try.func6, Try.ntmps6
  go_wp2_with fail
  refine (new_any _).mono ?_
  rintro e w1 ⟨f, rfl, hg, hz, hb⟩
  have HB1 := Lib.hid hb
  have HZ1 := Lib.hid hz
  have HG := Lib.hid hg
  clear hz hb hg
  go_wp2_with fail
  refine (awake_yes _).mono ?_
  rintro e w2 ⟨rfl, hb⟩
  have HB2 := Lib.hid (HB1.out.trans (hb.mono HB1.out.size))
  have HZ2 := Lib.hid (HZ1.out.under hb HZ1.out.lt)
  clear hb HZ1
  go_wp2_with fail
  refine (new_D (B := w.heap.size) 128 16 128 16 (by decide) (by decide) HZ2.out new_good (Nat.le_of_eq HG.out) HB2.out.size).mono ?_
  rintro e w3 ⟨d, P3, rfl, hd, hb, hp⟩
  have HD3 := Lib.hid hd
  have HB3 := Lib.hid (HB2.out.trans (hb.mono HB2.out.size))
  clear hd hb hp HZ2
  go_wp2_with fail
  refine (st_fresh HD3.out (by omega) (by omega) (by omega) (by omega) HB3.out.size).mono ?_
  rintro e w4 ⟨U4, v, ra, rc, rfl, hs, hb⟩
  have H4 := Lib.hid hs
  have HB4 := Lib.hid (HB3.out.trans hb)
  clear hs hb
  go_wp2
  go_loopg [53] N (fun g i wr => ∃ (k : Nat) (U : Nat → Prop) (l : Lg), Hid (g = N - k) ∧ k ≤ N ∧ i = .int .i64 (k : Int) ∧ Hid (l.gen = 1) ∧ Hid (St wr w.heap.size U d f v 128 16 l (2 + 2 * k)) ∧ Hid (Below w.heap.size w wr))
  case atStart => exact ⟨0, U4, _, Lib.hid rfl, Nat.zero_le _, rfl, Lib.hid rfl, H4, HB4⟩
  case round =>
    obtain ⟨k, U, l, HGG, hk, rfl, HGN, HS, HBL⟩ := hrel
    by_cases hlt : k < N
    · have hd : decide ((k : Int) < (N : Int)) = true := by simp; omega
      go_wp2_with fail
      refine (st_append ⟨#[120]⟩ (by decide) HS.out (by omega) HBL.out.size).mono ?_
      rintro e w5 ⟨rfl, U5, hs, _, hk5⟩
      have H5 := Lib.hid hs
      have HB5 := Lib.hid (HBL.out.trans (HS.out.below hk5 HBL.out.size))
      clear hs hk5
      go_wp2
      go_roundg (N - (k + 1))
      case measure => have := HGG.out; omega
      case rel => exact ⟨k + 1, U5, _, Lib.hid rfl, by omega, by go_num, Lib.hid (by rw [keeps_gen]; exact HGN.out), H5, HB5⟩
    · have hd : decide ((k : Int) < (N : Int)) = false := by simp; omega
      obtain ⟨P5, s5, fu5, hL5, _, _, hz5, hm5, _⟩ := HS.out
      have H5 := Lib.hid hL5
      have HZ5 := Lib.hid hz5
      have HM5 : Hid (s5.half = 8) := Lib.hid (by unfold Dk.half; rw [hm5])
      have hlen := hL5.half
      rw [HM5.out] at hlen
      obtain ⟨L, hL⟩ : ∃ L, L = l.list.length := ⟨_, rfl⟩
      rw [← hL] at hlen
      have HL := Lib.hid hL
      clear hL5 hz5 hm5 hL
      have HC : Hid (∀ W, LogP W w.heap.size P5 d f s5 fu5 v l (2 + 2 * k) → Calls Try.prog 29 #[.pointer (some ⟨f, 0, none⟩)] W fun e w' => e = .returned (.int .i64 fu5.count) ∧ W = w') := Lib.hid (fun W h => count_any f fu5 W h.wal.dsk.fz)
      obtain ⟨C, hC⟩ : ∃ C, C = fu5.count := ⟨_, rfl⟩
      rw [← hC] at HC
      have HCE := Lib.hid hC
      clear hC
      go_wp2_with fail
      refine (HC.out _ H5.out).mono ?_
      rintro e w' ⟨rfl, rfl⟩
      go_wp2_with fail
      refine (lroom H5.out).mono ?_
      rintro e w6 ⟨rfl, ha⟩
      rw [HM5.out, ← HL.out]
      have H6 := Lib.hid (H5.out.alike ha)
      have HB6 := Lib.hid (below_alike HBL.out ha)
      clear ha
      obtain ⟨r, hr⟩ : ∃ r : Int, r = ((8 : Nat) : Int) - 1 - (L : Int) := ⟨_, rfl⟩
      rw [← hr]
      have hr2 : r = 7 - (L : Int) := by omega
      have HR := Lib.hid hr
      clear hr
      go_wp2_with fail
      refine (app5 s (by unfold maxLen; omega) H6.out (by omega) HB6.out.size (by rw [HZ5.out]; omega)).mono ?_
      rintro e w7 ⟨rfl, P7, s7, fu7, hL, hz, hm, hf, hP, hk⟩
      have H7 := Lib.hid hL
      have HZ7 := Lib.hid hz
      have HM7 := Lib.hid hm
      have HF7 := Lib.hid (hf (by decide))
      have HB7 := Lib.hid (HB6.out.trans (LogP.below hk H6.out.wal HB6.out.size))
      clear hL hz hm hf hP hk
      go_wp2_with fail
      refine (chk5 s (by unfold maxLen; omega) H7.out (by omega) HB7.out.size (by rw [HZ7.out, HZ5.out]; omega)).mono ?_
      rintro e w8 ⟨rfl, P8, s8, fu8, hL, hz, hm, hf, hP, hk⟩
      have H8 := Lib.hid hL
      have HZ8 := Lib.hid hz
      have HM8 := Lib.hid hm
      have HF8 := Lib.hid (hf (by decide))
      have HB8 := Lib.hid (HB7.out.trans (LogP.below hk H7.out.wal HB7.out.size))
      clear hL hz hm hf hP hk
      have HM8H : Hid (s8.half = 8) := Lib.hid (by have := HM5.out; unfold Dk.half at this ⊢; rw [HM8.out, HM7.out]; exact this)
      by_cases hfull : L = 7
      · have er : (r == 0) = true := by simp; omega
        clear hr2
        go_wp2_with fail
        refine (app3 ⟨#[120]⟩ (by decide) H8.out (by omega) HB8.out.size (by rw [HZ8.out, HZ7.out, HZ5.out]; decide) (by rw [HM8H.out, ← HL.out]; omega)).mono ?_
        rintro e w9 ⟨rfl, P9, s9, fu9, hL, hz, hm, hf, hP, hk⟩
        have H9 := Lib.hid hL
        have HZ9 := Lib.hid hz
        have HM9 := Lib.hid hm
        have HF9 := Lib.hid (hf (by decide))
        have HB9 := Lib.hid (HB8.out.trans (LogP.below hk H8.out.wal HB8.out.size))
        clear hL hz hm hf hP hk
        have HM9H : Hid (s9.half = 8) := Lib.hid (by have := HM8H.out; unfold Dk.half at this ⊢; rw [HM9.out]; exact this)
        have HCC : Hid (C = fu9.count) := Lib.hid (by rw [HF9.out, HF8.out, HF7.out]; exact HCE.out)
        have HCN := Lib.hid (count_any f fu9 w9 H9.out.wal.dsk.fz)
        rw [← HCC.out] at HCN
        go_wp2_with fail
        refine HCN.out.mono ?_
        rintro e w' ⟨rfl, rfl⟩
        go_wp2_with fail
        refine (lroom H9.out).mono ?_
        rintro e w10 ⟨rfl, ha⟩
        rw [HM9H.out, ← HL.out, ← HR.out]
        have H10 := Lib.hid (H9.out.alike ha)
        have HB10 := Lib.hid (below_alike HB9.out ha)
        clear ha
        have HGA := Lib.hid (gen_any H10.out.wal)
        rw [HGN.out] at HGA
        go_wp2_with fail
        refine HGA.out.mono ?_
        rintro e w' ⟨rfl, rfl⟩
        have HBA := Lib.hid (broken_any H10.out.wal)
        rw [H10.out.log.whole] at HBA
        go_wp2_with fail
        refine HBA.out.mono ?_
        rintro e w' ⟨rfl, rfl⟩
        go_wp2
        go_ret
        exact ⟨rfl, HB10.out⟩
      · have er : (r == 0) = false := by simp; omega
        clear hr2
        have H9 := H8
        have HB9 := HB8
        have HM9H := HM8H
        have HCC : Hid (C = fu8.count) := Lib.hid (by rw [HF8.out, HF7.out]; exact HCE.out)
        have HCN := Lib.hid (count_any f fu8 w8 H9.out.wal.dsk.fz)
        rw [← HCC.out] at HCN
        go_wp2_with fail
        refine HCN.out.mono ?_
        rintro e w' ⟨rfl, rfl⟩
        go_wp2_with fail
        refine (lroom H9.out).mono ?_
        rintro e w10 ⟨rfl, ha⟩
        rw [HM9H.out, ← HL.out, ← HR.out]
        have H10 := Lib.hid (H9.out.alike ha)
        have HB10 := Lib.hid (below_alike HB9.out ha)
        clear ha
        have HGA := Lib.hid (gen_any H10.out.wal)
        rw [HGN.out] at HGA
        go_wp2_with fail
        refine HGA.out.mono ?_
        rintro e w' ⟨rfl, rfl⟩
        have HBA := Lib.hid (broken_any H10.out.wal)
        rw [H10.out.log.whole] at HBA
        go_wp2_with fail
        refine HBA.out.mono ?_
        rintro e w' ⟨rfl, rfl⟩
        go_wp2
        go_ret
        exact ⟨rfl, HB10.out⟩

theorem walk (n : Int) (s : ByteArray) (w : World) (hs : s.size ≤ maxLen) : Calls Try.prog 6 #[.int .i64 n, .string s] w (Holds w) := by
  by_cases h1 : n < 0
  · exact walk_long0 n s w h1
  by_cases h2 : 30 < n
  · exact walk_long1 n s w (by omega) h2
  by_cases h3 : s.size < 115
  · exact walk_long2 n s w (by omega) (by omega) h3
  by_cases h4 : 1000 < s.size
  · exact walk_long3 n s w hs (by omega) (by omega) (by omega) h4
  exact walk_main n s w (by omega) (by omega) (by omega) (by omega)

/-! From the walk to the given row. -/
set_option maxRecDepth 100000 in
theorem lifted (os : Os) (started : os.Started) (H : Type) (enc : TypeId × Value → H) :
    ReturnsInHanded {} Try.checked os 6 .any (Rows.walFullSpec.pre6 enc Try.prog Try.f6 Rows.walFullRow.domain false) (Rows.walFullSpec.post enc Try.prog Try.f6 false true false false) := by
  refine returnsInHanded_of_change (C := Try.checked) t_own started (by kernel_rfl) Try.func6
    (ChangeSpec.witness6 (enc := enc) (C := Try.checked) false ⟨#[], #[.int .i64 0, .string ⟨#[]⟩], []⟩ 8 (by kernel_rfl) (by kernel_rfl) (by kernel_rfl) (by kernel_rfl)) ?_
  intro W base args ds gs before hval0 hW hcnd _
  have hval : ∀ (j : Nat) t v, Try.f6.params[j]? = some t → args[j]? = some v → Value.okWide Try.prog W .any base t v := hval0
  have hW' := hW
  obtain ⟨p, q, hA0, hV, rfl, hfz, hnd⟩ := hW
  have hA : DataW.TrodAll enc Try.prog W 0 (fun _ => true) true Try.f6.params.toList args.toList ds p := hA0
  rw [Try.params6] at hA hval
  obtain ⟨v0, vs0, d0, ds0, p0, q0, hargs, rfl, rfl, h0, r0⟩ := trodAll_cons hA
  obtain ⟨v1, vs1, d1, ds1, p1, q1, rfl, rfl, rfl, h1, r1⟩ := trodAll_cons r0
  obtain ⟨rfl, rfl, rfl⟩ := trodAll_nil r1
  obtain rfl : args = #[v0, v1] := by cases args; simp_all
  obtain ⟨n, rfl, rfl, rfl, hn⟩ := open_int Try.underlying3 (hval 0 3 v0 rfl rfl) h0
  obtain ⟨s, rfl, rfl, rfl, hs⟩ := Go.ChangeMaps.open_string Try.underlying9 (hval 1 9 v1 rfl rfl) h1
  refine (walk n s W hs).mono fun e W' ⟨he, hb⟩ => ?_
  subst he
  exact ⟨_, rfl, post_of_holds hW' (by kernel_rfl) rfl (by rw [Try.params6]; exact fun t ht => params_ok t (by simp at ht; rcases ht with rfl | rfl <;> simp)) ⟨rfl, rfl, rfl⟩ hb⟩

/-- The given statement. -/
theorem proved : Rows.WalFullSaid :=
  OpenClaim.holds_of_wide 6 Try.f6 rfl rfl rfl rfl rfl rfl rfl ⟨rfl, rfl, rfl, rfl, rfl⟩ rfl rfl rfl rfl rfl (by kernel_rfl) Try.func6 (by kernel_rfl)
    (of_decide_eq_true (by kernel_rfl)) (by unfold Func.isWrapper; first | (rw [if_pos (by decide +kernel)]; kernel_rfl) | (rw [if_neg (by decide +kernel)]; exact ⟨rfl, rfl⟩))
    (fun os started H enc _ => lifted os started H enc)
#print axioms proved
end Go.Proofs.Ytooikkjgcpngdaa.walFull

