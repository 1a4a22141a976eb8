/-
  switchback's RouterLost: called again till it is told, whatever was lost or failed, a route is set once. For every input the law returns true, and each argument reads afterwards as it read before. No condition beside the row's own.
-/
import Derived.Test.YtdhonbgladenpaaLaw
namespace Go.Proofs.Ytdhonbgladenpaa.routerLost
open Go.Proofs.Ytdhonbgladenpaa
open Go.ChangeShapes Go.WideShapes Go.ChangeAt Go.RowKit
set_option linter.unusedVariables false

/-- The states behind k calls that weren't told. -/
def Lk (xs : List Int) (gen slot : Int) (k : Nat) (s : Ro) : Prop := s = ⟨0, 0, xs.drop k, 0⟩ ∨ s = ⟨slot, gen, xs.drop k, 1⟩
theorem Lk.bound {xs : List Int} {gen slot : Int} {k : Nat} {s : Ro} (h : Lk xs gen slot k s) : 0 ≤ s.writes ∧ s.writes ≤ 1000000 := by
  rcases h with rfl | rfl <;> simp
theorem tail_drop (xs : List Int) (k : Nat) : (xs.drop k).tail = xs.drop (k + 1) := by rw [List.tail_drop]
theorem lost_step {xs : List Int} {gen slot : Int} {k : Nat} {s : Ro} (h : Lk xs gen slot k s) (hk : k ≤ xs.length) (hg : 1 ≤ gen) :
    (callE s gen slot = 10 ∧ k < xs.length ∧ Lk xs gen slot (k + 1) (callS s gen slot)) ∨ (callE s gen slot = 0 ∧ callS s gen slot = ⟨slot, gen, xs.drop (k + 1), 1⟩) := by
  have hne : outS s ≠ 0 → k < xs.length := fun h0 => by
    rcases Nat.lt_or_ge k xs.length with h1 | h1
    · exact h1
    · exfalso
      apply h0
      have hd : xs.drop k = [] := List.drop_eq_nil_of_le h1
      rcases h with rfl | rfl <;> simp [outS, hd]
  have ht : s.outs.tail = xs.drop (k + 1) := by
    rcases h with rfl | rfl <;> exact tail_drop xs k
  unfold callE callS Lk
  rw [ht]
  by_cases h2 : outS s = 2
  · rw [if_pos h2, if_pos h2]
    refine .inl ⟨rfl, hne (by omega), ?_⟩
    rcases h with rfl | rfl
    · exact .inl rfl
    · exact .inr rfl
  rw [if_neg h2, if_neg h2]
  have hs : (if s.gen < gen then (⟨slot, gen, xs.drop (k + 1), s.writes + 1⟩ : Ro) else { s with outs := xs.drop (k + 1) }) = ⟨slot, gen, xs.drop (k + 1), 1⟩ := by
    rcases h with rfl | rfl
    · exact if_pos (show (0 : Int) < gen by omega)
    · exact if_neg (show ¬ gen < gen by omega)
  rw [hs]
  by_cases h1 : outS s = 1
  · rw [if_pos h1]
    exact .inl ⟨rfl, hne (by omega), .inr rfl⟩
  rw [if_neg h1]
  refine .inr ⟨?_, rfl⟩
  rcases h with rfl | rfl
  · exact if_pos (show (0 : Int) < gen by omega)
  · rw [if_neg (show ¬ gen < gen by omega)]
    exact if_neg (fun h => h.elim (fun h => absurd h (show ¬ gen < gen by omega)) (fun h => h rfl))
theorem lost_again (o : List Int) (gen slot : Int) : (callE ⟨slot, gen, o, 1⟩ gen slot = 10 ∨ callE ⟨slot, gen, o, 1⟩ gen slot = 0) ∧ (callS ⟨slot, gen, o, 1⟩ gen slot).writes = 1 := by
  unfold callE callS
  constructor
  · by_cases h2 : outS ⟨slot, gen, o, 1⟩ = 2
    · exact .inl (if_pos h2)
    rw [if_neg h2]
    by_cases h1 : outS ⟨slot, gen, o, 1⟩ = 1
    · exact .inl (if_pos h1)
    rw [if_neg h1, if_neg (show ¬ gen < gen by omega)]
    exact .inr (if_neg (fun h => h.elim (fun h => absurd h (show ¬ gen < gen by omega)) (fun h => h rfl)))
  · split
    · rfl
    · rw [if_neg (show ¬ gen < gen by omega)]

set_option maxRecDepth 100000 in
set_option maxHeartbeats 4000000 in
theorem walk_out0 (A : Option Addr) (c : Nat) (xs : List Int) (gen slot : Int) (w : World) (h : 100 < xs.length) : Calls Try.prog 5 #[.slice A xs.length c, .int .i64 gen, .int .i64 slot] w (Holds w) := by
  have e1 : decide (100 < (xs.length : Int)) = true := by simp; omega
  clear h
  go_enter Try.func5, Try.ntmps5
  go_wp2_with fail
  refine (new_any _).mono ?_
  rintro e w1 ⟨g, rfl, hg, hz, hb⟩
  have HB1 := Lib.hid hb
  have HZ1 : Hid (Fz w1 g 53 (F 0)) := Lib.hid hz
  have HG := Lib.hid (Nat.le_of_eq hg)
  clear hz hb hg
  go_wp2_with fail
  refine (awake_any _).mono ?_
  rintro e w2 ⟨rfl, hb⟩
  have HB2 := Lib.hid (HB1.out.trans (hb.mono HB1.out.size))
  have HZ2 := Lib.hid (HZ1.out.under hb HZ1.out.lt)
  clear hb HB1 HZ1
  clear HZ2 HG
  go_wp2_with fail
  refine (awake_any _).mono ?_
  rintro e w3 ⟨rfl, hb⟩
  have HB3 := Lib.hid (HB2.out.trans (hb.mono HB2.out.size))
  clear hb HB2
  go_wp2
  go_ret
  exact ⟨rfl, HB3.out⟩

set_option maxRecDepth 100000 in
set_option maxHeartbeats 4000000 in
theorem walk_out1 (A : Option Addr) (c : Nat) (xs : List Int) (gen slot : Int) (w : World) (h : ¬ 100 < xs.length) (h2 : gen < 1) : Calls Try.prog 5 #[.slice A xs.length c, .int .i64 gen, .int .i64 slot] w (Holds w) := by
  have e1 : decide (100 < (xs.length : Int)) = false := by simp; omega
  have e2 : decide (gen < 1) = true := by simpa using h2
  clear h h2
  go_enter Try.func5, Try.ntmps5
  go_wp2_with fail
  refine (new_any _).mono ?_
  rintro e w1 ⟨g, rfl, hg, hz, hb⟩
  have HB1 := Lib.hid hb
  have HZ1 : Hid (Fz w1 g 53 (F 0)) := Lib.hid hz
  have HG := Lib.hid (Nat.le_of_eq hg)
  clear hz hb hg
  go_wp2_with fail
  refine (awake_any _).mono ?_
  rintro e w2 ⟨rfl, hb⟩
  have HB2 := Lib.hid (HB1.out.trans (hb.mono HB1.out.size))
  have HZ2 := Lib.hid (HZ1.out.under hb HZ1.out.lt)
  clear hb HB1 HZ1
  clear HZ2 HG
  go_wp2_with fail
  refine (awake_any _).mono ?_
  rintro e w3 ⟨rfl, hb⟩
  have HB3 := Lib.hid (HB2.out.trans (hb.mono HB2.out.size))
  clear hb HB2
  go_wp2
  go_ret
  exact ⟨rfl, HB3.out⟩

set_option maxRecDepth 100000 in
set_option maxHeartbeats 4000000 in
theorem walk_out2 (A : Option Addr) (c : Nat) (xs : List Int) (gen slot : Int) (w : World) (h : ¬ 100 < xs.length) (h2 : ¬ gen < 1) (h3 : 1048576 < gen) : Calls Try.prog 5 #[.slice A xs.length c, .int .i64 gen, .int .i64 slot] w (Holds w) := by
  have e1 : decide (100 < (xs.length : Int)) = false := by simp; omega
  have e2 : decide (gen < 1) = false := by simpa using h2
  have e3 : decide (1048576 < gen) = true := by simpa using h3
  clear h h2 h3
  go_enter Try.func5, Try.ntmps5
  go_wp2_with fail
  refine (new_any _).mono ?_
  rintro e w1 ⟨g, rfl, hg, hz, hb⟩
  have HB1 := Lib.hid hb
  have HZ1 : Hid (Fz w1 g 53 (F 0)) := Lib.hid hz
  have HG := Lib.hid (Nat.le_of_eq hg)
  clear hz hb hg
  go_wp2_with fail
  refine (awake_any _).mono ?_
  rintro e w2 ⟨rfl, hb⟩
  have HB2 := Lib.hid (HB1.out.trans (hb.mono HB1.out.size))
  have HZ2 := Lib.hid (HZ1.out.under hb HZ1.out.lt)
  clear hb HB1 HZ1
  clear HZ2 HG
  go_wp2_with fail
  refine (awake_any _).mono ?_
  rintro e w3 ⟨rfl, hb⟩
  have HB3 := Lib.hid (HB2.out.trans (hb.mono HB2.out.size))
  clear hb HB2
  go_wp2
  go_ret
  exact ⟨rfl, HB3.out⟩

set_option maxRecDepth 100000 in
set_option maxHeartbeats 4000000 in
theorem walk_out3 (A : Option Addr) (c : Nat) (xs : List Int) (gen slot : Int) (w : World) (h : ¬ 100 < xs.length) (h2 : ¬ gen < 1) (h3 : ¬ 1048576 < gen) (h4 : ¬ slot = 0) (h5 : ¬ slot = 1) : Calls Try.prog 5 #[.slice A xs.length c, .int .i64 gen, .int .i64 slot] w (Holds w) := by
  have e1 : decide (100 < (xs.length : Int)) = false := by simp; omega
  have e2 : decide (gen < 1) = false := by simpa using h2
  have e3 : decide (1048576 < gen) = false := by simpa using h3
  have e4 : (slot == 0) = false := by simpa using h4
  have e4' : (slot != 0) = true := by simpa using h4
  have e5 : (slot == 1) = false := by simpa using h5
  have e5' : (slot != 1) = true := by simpa using h5
  clear h h2 h3
  go_enter Try.func5, Try.ntmps5
  go_wp2_with fail
  refine (new_any _).mono ?_
  rintro e w1 ⟨g, rfl, hg, hz, hb⟩
  have HB1 := Lib.hid hb
  have HZ1 : Hid (Fz w1 g 53 (F 0)) := Lib.hid hz
  have HG := Lib.hid (Nat.le_of_eq hg)
  clear hz hb hg
  go_wp2_with fail
  refine (awake_any _).mono ?_
  rintro e w2 ⟨rfl, hb⟩
  have HB2 := Lib.hid (HB1.out.trans (hb.mono HB1.out.size))
  have HZ2 := Lib.hid (HZ1.out.under hb HZ1.out.lt)
  clear hb HB1 HZ1
  clear HZ2 HG
  go_wp2_with fail
  refine (awake_any _).mono ?_
  rintro e w3 ⟨rfl, hb⟩
  have HB3 := Lib.hid (HB2.out.trans (hb.mono HB2.out.size))
  clear hb HB2
  go_wp2
  go_ret
  exact ⟨rfl, HB3.out⟩

set_option maxRecDepth 100000 in
set_option maxHeartbeats 4000000 in
theorem walk_in0 (A : Option Addr) (c : Nat) (xs : List Int) (gen : Int) (w : World) (hi : IntsI w (.slice A xs.length c) xs) (h : xs.length ≤ 100) (h2 : 1 ≤ gen ∧ gen ≤ 1048576) : Calls Try.prog 5 #[.slice A xs.length c, .int .i64 gen, .int .i64 0] w (Holds w) := by
  have e1 : decide (100 < (xs.length : Int)) = false := by simp; omega
  have e2 : decide (gen < 1) = false := by simp; omega
  have e3 : decide (1048576 < gen) = false := by simp; omega
  have HR : Hid (inRange gen 0) := Lib.hid (by unfold inRange; omega)
  have HG1 : Hid (1 ≤ gen) := Lib.hid h2.1
  have HI := Lib.hid hi
  have q34 := eq34
  have bs0 := build0
  clear hi h2
  go_enter Try.func5, Try.ntmps5
  go_wp2_with fail
  refine (new_any _).mono ?_
  rintro e w1 ⟨g, rfl, hg, hz, hb⟩
  have HB1 := Lib.hid hb
  have HZ1 : Hid (Fz w1 g 53 (F 0)) := Lib.hid hz
  have HG := Lib.hid (Nat.le_of_eq hg)
  clear hz hb hg
  go_wp2_with fail
  refine (awake_any _).mono ?_
  rintro e w2 ⟨rfl, hb⟩
  have HB2 := Lib.hid (HB1.out.trans (hb.mono HB1.out.size))
  have HZ2 := Lib.hid (HZ1.out.under hb HZ1.out.lt)
  clear hb HB1 HZ1
  go_wp2_with fail
  refine (pk_new w.heap.size g _ w2 HZ2.out HG.out).mono ?_
  rintro e w3 ⟨b, rfl, hp, hb⟩
  have HP3 := Lib.hid hp
  have HB3 := Lib.hid (HB2.out.trans (hb.mono HB2.out.size))
  clear hp hb HB2 HZ2 HG
  obtain ⟨A1, n1, c1, W1, ea, hi1, hb1⟩ := copy_ints (HI.out.under HB3.out (Nat.le_refl _)) (by omega)
  have E1 := Lib.hid ea
  have HI1 := Lib.hid hi1
  have HP4 := Lib.hid (HP3.out.under hb1)
  have HB4 := Lib.hid (HB3.out.trans (hb1.mono HB3.out.size))
  clear ea hi1 hb1 HP3 HB3
  go_wp2_with (first | (at_builtin; refine wpList_append_is rfl (.tmp 43) (.tmp 44) 35 rfl rfl rfl E1.out ?_))
  refine (pk_script w.heap.size b g _ _ _ xs W1 HP4.out HI1.out (by simp; omega)).mono ?_
  rintro e w5 ⟨rfl, hp, ht⟩
  have HP5 : Hid (Pk w5 w.heap.size b g ⟨0, 0, xs.drop 0, 0⟩ (F 0)) := Lib.hid hp
  have HB5 := Lib.hid (ht.below HB4.out)
  clear hp ht HP4 HB4 E1 HI1 bs0 HI
  go_wp2
  go_loopg [50] (xs.length + 1) (fun gh i wr => ∃ k : Nat, Hid (gh = xs.length + 1 - k) ∧ k ≤ xs.length ∧ i = .int .i64 (k : Int) ∧ Hid (∃ s, Lk xs gen 0 k s ∧ Pk wr w.heap.size b g s (F k)) ∧ Hid (Below w.heap.size w wr))
  case atStart => exact ⟨0, Lib.hid rfl, Nat.zero_le _, rfl, Lib.hid ⟨_, .inl rfl, HP5.out⟩, HB5⟩
  case round =>
    obtain ⟨k, HGH, hk, rfl, HQ, HBL⟩ := hrel
    obtain ⟨s, hl, hq⟩ := HQ.out
    have HP7 := Lib.hid hq
    have HS := Lib.hid hl
    have HK := Lib.hid hk
    have el : decide ((k : Int) < (xs.length : Int) + 1) = true := by simp; omega
    have en : decide ((k : Int) ≤ (xs.length : Int)) = true := by simp; omega
    have em : decide (k < xs.length + 1) = true := decide_eq_true (by omega)
    have eo : decide (k ≤ xs.length) = true := decide_eq_true (by omega)
    have hk9 : k ≤ 100 := by omega
    clear hq HQ HP5 HB5 hl hk
    go_wp2_with fail
    refine (pk_call w.heap.size b g _ _ gen 0 wr HP7.out (fineF k (by omega)) HS.out.bound).mono ?_
    rw [(toldF (s := s) HR.out).1, (toldF (s := s) HR.out).2.1, (toldF (s := s) HR.out).2.2]
    rintro e w8 ⟨rfl, hp, ht⟩
    have HP8 := Lib.hid hp
    have HB8 := Lib.hid (ht.below HBL.out)
    clear hp ht HP7 HBL
    rcases lost_step HS.out HK.out HG1.out with ⟨hE, hlt, hL⟩ | ⟨hE, hL⟩
    · have HL' := Lib.hid hL
      have HLT := Lib.hid hlt
      rw [hE]
      clear hE hL hlt
      go_wp2
      go_roundg (xs.length + 1 - (k + 1))
      case measure => have := HGH.out; have := HLT.out; omega
      case rel => exact ⟨k + 1, Lib.hid rfl, HLT.out, by go_num, Lib.hid ⟨_, HL'.out, by simpa using HP8.out⟩, HB8⟩
    · rw [hE]
      rw [hL] at HP8
      clear hE hL el en em eo HS HK HGH
      go_wp2_with fail
      refine (pk_writes w.heap.size b g _ _ w8 HP8.out).mono ?_
      rintro e w9 ⟨rfl, rfl⟩
      go_wp2_with fail
      refine (pk_cell w.heap.size b g _ _ w8 HP8.out).mono ?_
      rintro e w9 ⟨rfl, hb⟩
      have HP9 := Lib.hid (HP8.out.under hb)
      have HB9 := Lib.hid (HB8.out.trans (hb.mono HB8.out.size))
      clear hb HP8 HB8
      go_wp2_with fail
      refine (pk_call w.heap.size b g _ _ gen 0 w9 HP9.out (fineF (k + 1) (by omega)) (by simp)).mono ?_
      rw [(toldF (s := ⟨0, gen, xs.drop (k + 1), 1⟩) HR.out).1, (toldF (s := ⟨0, gen, xs.drop (k + 1), 1⟩) HR.out).2.1, (toldF (s := ⟨0, gen, xs.drop (k + 1), 1⟩) HR.out).2.2]
      rintro e w10 ⟨rfl, hp, ht⟩
      have HP10 := Lib.hid hp
      have HB10 := Lib.hid (ht.below HB9.out)
      have hw := (lost_again (xs.drop (k + 1)) gen 0).2
      have HW := Lib.hid hw
      clear hp ht HP9 HB9 hw
      rcases (lost_again (xs.drop (k + 1)) gen 0).1 with h1 | h1
      · rw [h1]
        clear h1
        go_wp2_with fail
        refine (pk_writes w.heap.size b g _ _ w10 HP10.out).mono ?_
        rw [HW.out]
        rintro e w11 ⟨rfl, rfl⟩
        go_wp2
        go_ret
        exact ⟨rfl, HB10.out⟩
      · rw [h1]
        clear h1
        go_wp2_with fail
        refine (pk_writes w.heap.size b g _ _ w10 HP10.out).mono ?_
        rw [HW.out]
        rintro e w11 ⟨rfl, rfl⟩
        go_wp2
        go_ret
        exact ⟨rfl, HB10.out⟩

set_option maxRecDepth 100000 in
set_option maxHeartbeats 4000000 in
theorem walk_in1 (A : Option Addr) (c : Nat) (xs : List Int) (gen : Int) (w : World) (hi : IntsI w (.slice A xs.length c) xs) (h : xs.length ≤ 100) (h2 : 1 ≤ gen ∧ gen ≤ 1048576) : Calls Try.prog 5 #[.slice A xs.length c, .int .i64 gen, .int .i64 1] w (Holds w) := by
  have e1 : decide (100 < (xs.length : Int)) = false := by simp; omega
  have e2 : decide (gen < 1) = false := by simp; omega
  have e3 : decide (1048576 < gen) = false := by simp; omega
  have HR : Hid (inRange gen 1) := Lib.hid (by unfold inRange; omega)
  have HG1 : Hid (1 ≤ gen) := Lib.hid h2.1
  have HI := Lib.hid hi
  have q34 := eq34
  have bs0 := build0
  clear hi h2
  go_enter Try.func5, Try.ntmps5
  go_wp2_with fail
  refine (new_any _).mono ?_
  rintro e w1 ⟨g, rfl, hg, hz, hb⟩
  have HB1 := Lib.hid hb
  have HZ1 : Hid (Fz w1 g 53 (F 0)) := Lib.hid hz
  have HG := Lib.hid (Nat.le_of_eq hg)
  clear hz hb hg
  go_wp2_with fail
  refine (awake_any _).mono ?_
  rintro e w2 ⟨rfl, hb⟩
  have HB2 := Lib.hid (HB1.out.trans (hb.mono HB1.out.size))
  have HZ2 := Lib.hid (HZ1.out.under hb HZ1.out.lt)
  clear hb HB1 HZ1
  go_wp2_with fail
  refine (pk_new w.heap.size g _ w2 HZ2.out HG.out).mono ?_
  rintro e w3 ⟨b, rfl, hp, hb⟩
  have HP3 := Lib.hid hp
  have HB3 := Lib.hid (HB2.out.trans (hb.mono HB2.out.size))
  clear hp hb HB2 HZ2 HG
  obtain ⟨A1, n1, c1, W1, ea, hi1, hb1⟩ := copy_ints (HI.out.under HB3.out (Nat.le_refl _)) (by omega)
  have E1 := Lib.hid ea
  have HI1 := Lib.hid hi1
  have HP4 := Lib.hid (HP3.out.under hb1)
  have HB4 := Lib.hid (HB3.out.trans (hb1.mono HB3.out.size))
  clear ea hi1 hb1 HP3 HB3
  go_wp2_with (first | (at_builtin; refine wpList_append_is rfl (.tmp 43) (.tmp 44) 35 rfl rfl rfl E1.out ?_))
  refine (pk_script w.heap.size b g _ _ _ xs W1 HP4.out HI1.out (by simp; omega)).mono ?_
  rintro e w5 ⟨rfl, hp, ht⟩
  have HP5 : Hid (Pk w5 w.heap.size b g ⟨0, 0, xs.drop 0, 0⟩ (F 0)) := Lib.hid hp
  have HB5 := Lib.hid (ht.below HB4.out)
  clear hp ht HP4 HB4 E1 HI1 bs0 HI
  go_wp2
  go_loopg [50] (xs.length + 1) (fun gh i wr => ∃ k : Nat, Hid (gh = xs.length + 1 - k) ∧ k ≤ xs.length ∧ i = .int .i64 (k : Int) ∧ Hid (∃ s, Lk xs gen 1 k s ∧ Pk wr w.heap.size b g s (F k)) ∧ Hid (Below w.heap.size w wr))
  case atStart => exact ⟨0, Lib.hid rfl, Nat.zero_le _, rfl, Lib.hid ⟨_, .inl rfl, HP5.out⟩, HB5⟩
  case round =>
    obtain ⟨k, HGH, hk, rfl, HQ, HBL⟩ := hrel
    obtain ⟨s, hl, hq⟩ := HQ.out
    have HP7 := Lib.hid hq
    have HS := Lib.hid hl
    have HK := Lib.hid hk
    have el : decide ((k : Int) < (xs.length : Int) + 1) = true := by simp; omega
    have en : decide ((k : Int) ≤ (xs.length : Int)) = true := by simp; omega
    have em : decide (k < xs.length + 1) = true := decide_eq_true (by omega)
    have eo : decide (k ≤ xs.length) = true := decide_eq_true (by omega)
    have hk9 : k ≤ 100 := by omega
    clear hq HQ HP5 HB5 hl hk
    go_wp2_with fail
    refine (pk_call w.heap.size b g _ _ gen 1 wr HP7.out (fineF k (by omega)) HS.out.bound).mono ?_
    rw [(toldF (s := s) HR.out).1, (toldF (s := s) HR.out).2.1, (toldF (s := s) HR.out).2.2]
    rintro e w8 ⟨rfl, hp, ht⟩
    have HP8 := Lib.hid hp
    have HB8 := Lib.hid (ht.below HBL.out)
    clear hp ht HP7 HBL
    rcases lost_step HS.out HK.out HG1.out with ⟨hE, hlt, hL⟩ | ⟨hE, hL⟩
    · have HL' := Lib.hid hL
      have HLT := Lib.hid hlt
      rw [hE]
      clear hE hL hlt
      go_wp2
      go_roundg (xs.length + 1 - (k + 1))
      case measure => have := HGH.out; have := HLT.out; omega
      case rel => exact ⟨k + 1, Lib.hid rfl, HLT.out, by go_num, Lib.hid ⟨_, HL'.out, by simpa using HP8.out⟩, HB8⟩
    · rw [hE]
      rw [hL] at HP8
      clear hE hL el en em eo HS HK HGH
      go_wp2_with fail
      refine (pk_writes w.heap.size b g _ _ w8 HP8.out).mono ?_
      rintro e w9 ⟨rfl, rfl⟩
      go_wp2_with fail
      refine (pk_cell w.heap.size b g _ _ w8 HP8.out).mono ?_
      rintro e w9 ⟨rfl, hb⟩
      have HP9 := Lib.hid (HP8.out.under hb)
      have HB9 := Lib.hid (HB8.out.trans (hb.mono HB8.out.size))
      clear hb HP8 HB8
      go_wp2_with fail
      refine (pk_call w.heap.size b g _ _ gen 1 w9 HP9.out (fineF (k + 1) (by omega)) (by simp)).mono ?_
      rw [(toldF (s := ⟨1, gen, xs.drop (k + 1), 1⟩) HR.out).1, (toldF (s := ⟨1, gen, xs.drop (k + 1), 1⟩) HR.out).2.1, (toldF (s := ⟨1, gen, xs.drop (k + 1), 1⟩) HR.out).2.2]
      rintro e w10 ⟨rfl, hp, ht⟩
      have HP10 := Lib.hid hp
      have HB10 := Lib.hid (ht.below HB9.out)
      have hw := (lost_again (xs.drop (k + 1)) gen 1).2
      have HW := Lib.hid hw
      clear hp ht HP9 HB9 hw
      rcases (lost_again (xs.drop (k + 1)) gen 1).1 with h1 | h1
      · rw [h1]
        clear h1
        go_wp2_with fail
        refine (pk_writes w.heap.size b g _ _ w10 HP10.out).mono ?_
        rw [HW.out]
        rintro e w11 ⟨rfl, rfl⟩
        go_wp2
        go_ret
        exact ⟨rfl, HB10.out⟩
      · rw [h1]
        clear h1
        go_wp2_with fail
        refine (pk_writes w.heap.size b g _ _ w10 HP10.out).mono ?_
        rw [HW.out]
        rintro e w11 ⟨rfl, rfl⟩
        go_wp2
        go_ret
        exact ⟨rfl, HB10.out⟩

theorem walk (v : Value) (xs : List Int) (gen slot : Int) (w : World) (hi : IntsI w v xs) : Calls Try.prog 5 #[v, .int .i64 gen, .int .i64 slot] w (Holds w) := by
  obtain ⟨A, c, rfl⟩ := hi.shape
  by_cases h : 100 < xs.length
  · exact walk_out0 A c xs gen slot w h
  by_cases h2 : gen < 1
  · exact walk_out1 A c xs gen slot w h h2
  by_cases h3 : 1048576 < gen
  · exact walk_out2 A c xs gen slot w h h2 h3
  by_cases h4 : slot = 0
  · subst h4
    exact walk_in0 A c xs gen w hi (by omega) (by omega)
  by_cases h5 : slot = 1
  · subst h5
    exact walk_in1 A c xs gen w hi (by omega) (by omega)
  exact walk_out3 A c xs gen slot w h h2 h3 h4 h5

/-! From the walk to the given row. -/
set_option maxRecDepth 100000 in
theorem lifted (os : Os) (started : os.Started) (H : Type) (enc : TypeId × Value → H) :
    ReturnsInHanded {} Try.checked os 5 .any (Rows.routerLostSpec.pre6 enc Try.prog Try.f5 Rows.routerLostRow.domain false) (Rows.routerLostSpec.post enc Try.prog Try.f5 false true false false) := by
  refine returnsInHanded_of_change (C := Try.checked) t_own started (by kernel_rfl) Try.func5
    (ChangeSpec.witness6 (enc := enc) (C := Try.checked) false ⟨#[], #[.slice none 0 0, .int .i64 0, .int .i64 0], []⟩ 8 (by kernel_rfl) (by kernel_rfl) (by kernel_rfl) (by kernel_rfl)) ?_
  intro W base args ds gs before hval0 hW hcnd _
  have hval : ∀ (j : Nat) t v, Try.f5.params[j]? = some t → args[j]? = some v → Value.okWide Try.prog W .any base t v := hval0
  have hW' := hW
  obtain ⟨p, q, hA0, hV, rfl, hfz, hnd⟩ := hW
  have hA : DataW.TrodAll enc Try.prog W 0 (fun _ => true) true Try.f5.params.toList args.toList ds p := hA0
  rw [Try.params5] at hA hval
  obtain ⟨v0, vs0, d0, ds0, p0, q0, hargs, rfl, rfl, h0, r0⟩ := trodAll_cons hA
  obtain ⟨v1, vs1, d1, ds1, p1, q1, rfl, rfl, rfl, h1, r1⟩ := trodAll_cons r0
  obtain ⟨v2, vs2, d2, ds2, p2, q2, rfl, rfl, rfl, h2, r2⟩ := trodAll_cons r1
  obtain ⟨rfl, rfl, rfl⟩ := trodAll_nil r2
  obtain rfl : args = #[v0, v1, v2] := by cases args; simp_all
  obtain ⟨xs, hi, _⟩ := open_ints (hval 0 35 v0 rfl rfl) h0
  obtain ⟨a1, rfl, rfl, rfl, w1⟩ := open_int Try.underlying3 (hval 1 3 v1 rfl rfl) h1
  obtain ⟨a2, rfl, rfl, rfl, w2⟩ := open_int Try.underlying3 (hval 2 3 v2 rfl rfl) h2
  refine (walk v0 xs a1 a2 W hi).mono fun e W' ⟨he, hb⟩ => ?_
  subst he
  exact ⟨_, rfl, post_of_holds hW' (by kernel_rfl) rfl (by rw [Try.params5]; exact fun t ht => params_ok t (by simp at ht; rcases ht with rfl | rfl <;> simp)) ⟨rfl, rfl, rfl⟩ hb⟩

/-- The given statement. -/
theorem proved : Rows.RouterLostSaid :=
  OpenClaim.holds_of_wide 5 Try.f5 rfl rfl rfl rfl rfl rfl rfl ⟨rfl, rfl, rfl, rfl, rfl⟩ rfl rfl rfl rfl rfl (by kernel_rfl) Try.func5 (by kernel_rfl)
    (of_decide_eq_true (by kernel_rfl)) (by unfold Func.isWrapper; first | (rw [if_pos (by decide +kernel)]; kernel_rfl) | (rw [if_neg (by decide +kernel)]; exact ⟨rfl, rfl⟩))
    (fun os started H enc _ => lifted os started H enc)
#print axioms proved
end Go.Proofs.Ytdhonbgladenpaa.routerLost
