/-
  ClientCounts: the walk, of slot 1.
-/
import Derived.Test.YtjalmfomeehpgaaCntA
namespace Go.Proofs.Ytjalmfomeehpgaa.clientCounts
open Go.Proofs.Ytjalmfomeehpgaa
open Go.RowKit
set_option linter.unusedVariables false

set_option maxRecDepth 100000 in
set_option maxHeartbeats 4000000 in
theorem in_1 (A : Option Addr) (c : Nat) (xs : List Int) (tr ar slot gen : Int) (w : World) (hx : IntsI w (.slice A xs.length c) xs) (hs : slot = 1) (h : xs.length ≤ 50) (hI : inRange gen slot) (hft : Fits ar) : Calls Try.prog 6 #[.slice A xs.length c, .agg #[.int .i64 tr, .int .i64 ar], .agg #[.int .i64 slot, .int .i64 gen]] w (Holds w) := by
  have n1 : decide (50 < (xs.length : Int)) = false := by simp; omega
  have n2 : decide (50 < xs.length) = false := by simp; omega
  have f3 : decide (gen < 1) = false := by unfold inRange at hI; simp; omega
  have f4 : decide (1048576 < gen) = false := by unfold inRange at hI; simp; omega
  subst hs
  have q33 := eq34
  have HI := Lib.hid hx
  have HIR := Lib.hid hI
  have HLO := Lib.hid h
  have HFT := Lib.hid hft
  clear hft
  clear hx hI h
  go_enter Try.func6, Try.ntmps6
  go_upto_region 1 with (fail)
  obtain ⟨H, hH⟩ : ∃ X, X = w.heap.size := ⟨_, rfl⟩
  obtain ⟨T, hT⟩ : ∃ X, X = w.heap.size + 1 := ⟨_, rfl⟩
  rw [← hT, ← hH]
  refine name_w (fun W => Cel W T 1 gen ∧ Arr W H tr ar ∧ Below w.heap.size w W) ?_ ?_
  · have b1 := below_alloc w (.cells #[.int .i64 tr, .int .i64 ar] 54)
    have b2 := below_alloc (w.alloc (.cells #[.int .i64 tr, .int .i64 ar] 54)) (.cells #[.int .i64 1, .int .i64 gen] 33)
    have e : (w.alloc (.cells #[.int .i64 tr, .int .i64 ar] 54)).heap.size = w.heap.size + 1 := by simp
    rw [hT, hH, ← e]
    exact ⟨Cel.new _ _ _, (b2.block _ (by simp)).trans (heap_alloc_new w _), b1.trans (b2.mono b1.size)⟩
  clear hT hH
  rintro w0 ⟨h1, h3, h2⟩
  have HH0 := Lib.hid h3
  have HT0 := Lib.hid h1
  have HB0 := Lib.hid h2
  clear h1 h2 h3
  go_wp2_with fail
  refine (new_any _).mono ?_
  rintro e w1 ⟨g, rfl, hg, hz, hb⟩
  have HB1 := Lib.hid (HB0.out.trans (hb.mono HB0.out.size))
  have HZ1 : Hid (Fz w1 g 57 (F 0)) := Lib.hid hz
  have HT1 := Lib.hid (HT0.out.below hb)
  have HG : Hid (w.heap.size ≤ g) := Lib.hid (by have := HB0.out.size; omega)
  have HH1 := Lib.hid (HH0.out.below hb)
  clear hz hb hg HB0 HT0 HH0
  go_wp2_with fail
  refine (awake_any _).mono ?_
  rintro e w2 ⟨rfl, hb⟩
  have HB2 := Lib.hid (HB1.out.trans (hb.mono HB1.out.size))
  have HZ2 := Lib.hid (HZ1.out.under hb HZ1.out.lt)
  have HT2 := Lib.hid (HT1.out.below hb)
  have HH2 := Lib.hid (HH1.out.below hb)
  clear hb HB1 HZ1 HT1 HH1
  have k0 := HT2.out.c0
  have k1 := HT2.out.c1
  go_wp2_with fail
  refine (pk_new w.heap.size g _ w2 HZ2.out HG.out).mono ?_
  rintro e w3 ⟨b, rfl, hp, hb⟩
  have HP3 := Lib.hid hp
  have HB3 := Lib.hid (HB2.out.trans (hb.mono HB2.out.size))
  have HT3 := Lib.hid (HT2.out.below hb)
  have HH3 := Lib.hid (HH2.out.below hb)
  clear hp hb HB2 HZ2 HT2 HG k0 k1 f3 f4 n1 n2 HH2
  obtain ⟨A1, m1, c1, W1, ea, hi1, hb1⟩ := copy_ints (HI.out.under HB3.out (Nat.le_refl _)) (by have := HLO.out; omega)
  have E1 := Lib.hid ea
  have HI1 := Lib.hid hi1
  have HB1 := Lib.hid (HB3.out.trans (hb1.mono HB3.out.size))
  have HP1 := Lib.hid (HP3.out.under hb1)
  have HT1 := Lib.hid (HT3.out.below hb1)
  have HH1 := Lib.hid (HH3.out.below hb1)
  have bs0 := build0
  clear ea hi1 hb1 HB3 HP3 HT3 HH3
  go_wp2_with (first | (at_builtin; refine wpList_append_is rfl (.tmp 50) (.tmp 51) 34 rfl rfl rfl E1.out ?_))
  refine (pk_script w.heap.size b g _ _ _ xs W1 HP1.out HI1.out (by have := HLO.out; simp; omega)).mono ?_
  rintro e w4 ⟨rfl, hp, ht⟩
  have HP4 : Hid (Pk w4 w.heap.size b g ⟨0, 0, xs, 0⟩ (F 0)) := Lib.hid hp
  have HB4 := Lib.hid (ht.below HB1.out)
  have HT4 := Lib.hid (HT1.out.turn ht)
  have HH4 := Lib.hid (HH1.out.turn ht)
  clear hp ht HP1 HB1 HT1 HI1 E1 bs0 HH1
  have y1 := HH4.out.c1
  go_wp2_with fail
  refine (pk_arm w.heap.size b g _ _ ar w4 HP4.out).mono ?_
  rintro e w5 ⟨rfl, hp, ht⟩
  have HP5 : Hid (Pk w5 w.heap.size b g ⟨0, 0, xs, 0⟩ ⟨true, max ar 0, false, 0⟩) := Lib.hid hp
  have HB5 := Lib.hid (ht.below HB4.out)
  have HT5 := Lib.hid (HT4.out.turn ht)
  have HH5 := Lib.hid (HH4.out.turn ht)
  clear hp ht HP4 HB4 HT4 HH4 y1
  obtain ⟨f0, hf0⟩ : ∃ x : Fu, x = ⟨true, max ar 0, false, 0⟩ := ⟨_, rfl⟩
  obtain ⟨s0, hs0⟩ : ∃ x : Ro, x = ⟨0, 0, xs, 0⟩ := ⟨_, rfl⟩
  have HP5' : Hid (Pk w5 w.heap.size b g s0 f0) := Lib.hid (by rw [hs0, hf0]; exact HP5.out)
  have HD : Hid (Bd 1 s0 f0) := Lib.hid (by
    have h1 := HFT.out
    unfold Fits at h1
    rw [hs0, hf0]
    exact ⟨fun _ => by simp only; omega, fun h => (by cases h), by simp, by simp, by have := HLO.out; simp; omega⟩)
  have HF0 : Hid (f0.count = 0 ∧ f0.blown = false) := Lib.hid (by rw [hf0]; exact ⟨rfl, rfl⟩)
  clear HP5 hf0 hs0
  have y0 := HH5.out.c0
  have k0 := HT5.out.c0
  have k1 := HT5.out.c1
  go_wp2_with fail
  refine (pk_set w.heap.size b g 1 s0 f0 gen 1 tr w5 HP5'.out HD.out (by omega)).mono ?_
  rintro e w6 ⟨j, hj, rfl, hp, ht⟩
  obtain ⟨sx, hsx⟩ : ∃ x, x = (st gen 1 s0 f0 j).1 := ⟨_, rfl⟩
  obtain ⟨fx, hfx⟩ : ∃ x, x = (st gen 1 s0 f0 j).2 := ⟨_, rfl⟩
  obtain ⟨tt, htt⟩ : ∃ x, x = last gen 1 s0 f0 j := ⟨_, rfl⟩
  obtain ⟨M, hM⟩ : ∃ x, x = triesC tr := ⟨_, rfl⟩
  have hcs := count_st HIR.out hj HF0.out
  have hM8 := triesC_in tr
  rw [← hfx, ← htt] at hcs
  rw [← hM] at hj hM8
  rw [← hsx, ← hfx] at hp
  rw [← htt]
  have HP6 := Lib.hid hp
  have HB6 := Lib.hid (ht.below HB5.out)
  have HT6 := Lib.hid (HT5.out.turn ht)
  have HH6 := Lib.hid (HH5.out.turn ht)
  have HMT := Lib.hid hM
  have hj1 : 1 ≤ j := hj.pos
  have hjM : (j : Int) ≤ M := hj.le
  have HCS := Lib.hid hcs
  clear hp ht hsx hfx htt hM hj hcs HP5' HB5 HT5 HH5 k0 k1 y0 HD HF0
  have g1 : decide (1 ≤ (j : Int)) = true := by simp; omega
  have g2 : decide (1 ≤ j) = true := by simp; omega
  have g3 : decide ((j : Int) ≤ M) = true := by simp; omega
  have hj8 : j ≤ 8 := by omega
  have HJ1 := Lib.hid hj1
  have HJM := Lib.hid hjM
  have y0 := HH6.out.c0
  have HQ3 : Hid (∀ V, Calls Try.prog 21 #[.int .i64 tr] V fun e w' => e = .returned (.int .i64 M) ∧ V = w') := Lib.hid (fun V => by rw [HMT.out]; exact tries_any tr V)
  clear hj1 hjM hM8
  by_cases h2 : tt = 2
  case pos =>
    subst h2
    have hc1 : fx.count = (j : Int) - 1 ∧ fx.blown = true := by
      rcases HCS.out with ⟨_, a, b⟩ | ⟨a, _, _⟩
      · exact ⟨a, b⟩
      · exact absurd rfl a
    have HQ1 : Hid (Calls Try.prog 20 #[.pointer (some ⟨g, 0, none⟩)] w6 fun e w' => e = .returned (.int .i64 ((j : Int) - 1)) ∧ w6 = w') := Lib.hid (by rw [← hc1.1]; exact pk_count w.heap.size b g sx fx w6 HP6.out)
    have HQ2 : Hid (Calls Try.prog 23 #[.pointer (some ⟨g, 0, none⟩)] w6 fun e w' => e = .returned (.bool true) ∧ w6 = w') := Lib.hid (by rw [← hc1.2]; exact blown_any g fx w6 HP6.out.fz)
    have ew : IntKind.i64.wrap ((j : Int) - 1) = (j : Int) - 1 := IntWalk.i64_in _ (by have := HJ1.out; omega)
    clear hc1 HCS
    go_wp2_with (first | (go_at_call 20; refine HQ1.out.mono ?_; rintro e w' ⟨rfl, rfl⟩) | (go_at_call 21; refine (HQ3.out _).mono ?_; rintro e w' ⟨rfl, rfl⟩) | (go_at_call 23; refine HQ2.out.mono ?_; rintro e w' ⟨rfl, rfl⟩))
    go_ret
    exact ⟨rfl, HB6.out⟩
  have hc1 : fx.count = (j : Int) ∧ fx.blown = false := by
    rcases HCS.out with ⟨a, _, _⟩ | ⟨_, a, b⟩
    · exact absurd a h2
    · exact ⟨a, b⟩
  have e2 : (tt == 2) = false := by simpa using h2
  have HQ1 : Hid (Calls Try.prog 20 #[.pointer (some ⟨g, 0, none⟩)] w6 fun e w' => e = .returned (.int .i64 (j : Int)) ∧ w6 = w') := Lib.hid (by rw [← hc1.1]; exact pk_count w.heap.size b g sx fx w6 HP6.out)
  have HQ2 : Hid (Calls Try.prog 23 #[.pointer (some ⟨g, 0, none⟩)] w6 fun e w' => e = .returned (.bool false) ∧ w6 = w') := Lib.hid (by rw [← hc1.2]; exact blown_any g fx w6 HP6.out.fz)
  clear hc1 HCS h2
  go_wp2_with (first | (go_at_call 20; refine HQ1.out.mono ?_; rintro e w' ⟨rfl, rfl⟩) | (go_at_call 21; refine (HQ3.out _).mono ?_; rintro e w' ⟨rfl, rfl⟩) | (go_at_call 23; refine HQ2.out.mono ?_; rintro e w' ⟨rfl, rfl⟩))
  go_ret
  exact ⟨rfl, HB6.out⟩
end Go.Proofs.Ytjalmfomeehpgaa.clientCounts
