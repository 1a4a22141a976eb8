/-
  ClientTries: inputs that it lets go.
-/
import Derived.Test.YtjalmfomeehpgaaTryA
namespace Go.Proofs.Ytjalmfomeehpgaa.clientTries
open Go.Proofs.Ytjalmfomeehpgaa
open Go.RowKit
set_option linter.unusedVariables false

set_option maxRecDepth 100000 in
set_option maxHeartbeats 4000000 in
theorem out_len (A : Option Addr) (c : Nat) (xs : List Int) (tries slot gen : Int) (w : World) (hx : IntsI w (.slice A xs.length c) xs) (h : 50 < xs.length) : Calls Try.prog 4 #[.slice A xs.length c, .int .i64 tries, .agg #[.int .i64 slot, .int .i64 gen]] w (Holds w) := by
  have n1 : decide (50 < (xs.length : Int)) = true := by simp; omega
  have n2 : decide (50 < xs.length) = true := by simp; omega
  clear h
  go_enter Try.func4, Try.ntmps4
  go_upto_region 1 with (fail)
  obtain ⟨T, hT⟩ : ∃ X, X = w.heap.size := ⟨_, rfl⟩
  rw [← hT]
  refine name_w (fun W => Cel W T slot gen ∧ Below w.heap.size w W) ?_ ?_
  · rw [hT]
    exact ⟨Cel.new _ _ _, below_alloc _ _⟩
  clear hT
  rintro w0 ⟨h1, h2⟩
  have HT0 := Lib.hid h1
  have HB0 := Lib.hid h2
  clear h1 h2
  go_wp2_with fail
  refine (new_any _).mono ?_
  rintro e w1 ⟨g, rfl, hg, hz, hb⟩
  have HB1 := Lib.hid (HB0.out.trans (hb.mono HB0.out.size))
  have HZ1 : Hid (Fz w1 g 57 (F 0)) := Lib.hid hz
  have HT1 := Lib.hid (HT0.out.below hb)
  have HG : Hid (w.heap.size ≤ g) := Lib.hid (by have := HB0.out.size; omega)
  clear hz hb hg HB0 HT0
  go_wp2_with fail
  refine (awake_any _).mono ?_
  rintro e w2 ⟨rfl, hb⟩
  have HB2 := Lib.hid (HB1.out.trans (hb.mono HB1.out.size))
  have HZ2 := Lib.hid (HZ1.out.under hb HZ1.out.lt)
  have HT2 := Lib.hid (HT1.out.below hb)
  clear hb HB1 HZ1 HT1
  have k0 := HT2.out.c0
  have k1 := HT2.out.c1
  go_wp2_with fail
  refine (awake_any _).mono ?_
  rintro e w3 ⟨rfl, hb⟩
  have HB3 := Lib.hid (HB2.out.trans (hb.mono HB2.out.size))
  clear hb
  go_wp2
  go_ret
  exact ⟨rfl, HB3.out⟩
set_option maxRecDepth 100000 in
set_option maxHeartbeats 4000000 in
theorem out_slot (A : Option Addr) (c : Nat) (xs : List Int) (tries slot gen : Int) (w : World) (hx : IntsI w (.slice A xs.length c) xs) (h : xs.length ≤ 50) (hs0 : slot ≠ 0) (hs1 : slot ≠ 1) : Calls Try.prog 4 #[.slice A xs.length c, .int .i64 tries, .agg #[.int .i64 slot, .int .i64 gen]] w (Holds w) := by
  have n1 : decide (50 < (xs.length : Int)) = false := by simp; omega
  have n2 : decide (50 < xs.length) = false := by simp; omega
  have f1 : (slot == 0) = false := by simpa using hs0
  have f2 : (slot != 0) = true := by simpa using hs0
  have f3 : (slot == 1) = false := by simpa using hs1
  have f4 : (slot != 1) = true := by simpa using hs1
  clear h hs0 hs1
  go_enter Try.func4, Try.ntmps4
  go_upto_region 1 with (fail)
  obtain ⟨T, hT⟩ : ∃ X, X = w.heap.size := ⟨_, rfl⟩
  rw [← hT]
  refine name_w (fun W => Cel W T slot gen ∧ Below w.heap.size w W) ?_ ?_
  · rw [hT]
    exact ⟨Cel.new _ _ _, below_alloc _ _⟩
  clear hT
  rintro w0 ⟨h1, h2⟩
  have HT0 := Lib.hid h1
  have HB0 := Lib.hid h2
  clear h1 h2
  go_wp2_with fail
  refine (new_any _).mono ?_
  rintro e w1 ⟨g, rfl, hg, hz, hb⟩
  have HB1 := Lib.hid (HB0.out.trans (hb.mono HB0.out.size))
  have HZ1 : Hid (Fz w1 g 57 (F 0)) := Lib.hid hz
  have HT1 := Lib.hid (HT0.out.below hb)
  have HG : Hid (w.heap.size ≤ g) := Lib.hid (by have := HB0.out.size; omega)
  clear hz hb hg HB0 HT0
  go_wp2_with fail
  refine (awake_any _).mono ?_
  rintro e w2 ⟨rfl, hb⟩
  have HB2 := Lib.hid (HB1.out.trans (hb.mono HB1.out.size))
  have HZ2 := Lib.hid (HZ1.out.under hb HZ1.out.lt)
  have HT2 := Lib.hid (HT1.out.below hb)
  clear hb HB1 HZ1 HT1
  have k0 := HT2.out.c0
  have k1 := HT2.out.c1
  go_wp2_with fail
  refine (awake_any _).mono ?_
  rintro e w3 ⟨rfl, hb⟩
  have HB3 := Lib.hid (HB2.out.trans (hb.mono HB2.out.size))
  clear hb
  go_wp2
  go_ret
  exact ⟨rfl, HB3.out⟩
set_option maxRecDepth 100000 in
set_option maxHeartbeats 4000000 in
theorem out_low0 (A : Option Addr) (c : Nat) (xs : List Int) (tries slot gen : Int) (w : World) (hx : IntsI w (.slice A xs.length c) xs) (hs : slot = 0) (h : xs.length ≤ 50) (hg : gen < 1) : Calls Try.prog 4 #[.slice A xs.length c, .int .i64 tries, .agg #[.int .i64 slot, .int .i64 gen]] w (Holds w) := by
  have n1 : decide (50 < (xs.length : Int)) = false := by simp; omega
  have n2 : decide (50 < xs.length) = false := by simp; omega
  subst hs
  have f3 : decide (gen < 1) = true := decide_eq_true hg
  clear h hg
  go_enter Try.func4, Try.ntmps4
  go_upto_region 1 with (fail)
  obtain ⟨T, hT⟩ : ∃ X, X = w.heap.size := ⟨_, rfl⟩
  rw [← hT]
  refine name_w (fun W => Cel W T 0 gen ∧ Below w.heap.size w W) ?_ ?_
  · rw [hT]
    exact ⟨Cel.new _ _ _, below_alloc _ _⟩
  clear hT
  rintro w0 ⟨h1, h2⟩
  have HT0 := Lib.hid h1
  have HB0 := Lib.hid h2
  clear h1 h2
  go_wp2_with fail
  refine (new_any _).mono ?_
  rintro e w1 ⟨g, rfl, hg, hz, hb⟩
  have HB1 := Lib.hid (HB0.out.trans (hb.mono HB0.out.size))
  have HZ1 : Hid (Fz w1 g 57 (F 0)) := Lib.hid hz
  have HT1 := Lib.hid (HT0.out.below hb)
  have HG : Hid (w.heap.size ≤ g) := Lib.hid (by have := HB0.out.size; omega)
  clear hz hb hg HB0 HT0
  go_wp2_with fail
  refine (awake_any _).mono ?_
  rintro e w2 ⟨rfl, hb⟩
  have HB2 := Lib.hid (HB1.out.trans (hb.mono HB1.out.size))
  have HZ2 := Lib.hid (HZ1.out.under hb HZ1.out.lt)
  have HT2 := Lib.hid (HT1.out.below hb)
  clear hb HB1 HZ1 HT1
  have k0 := HT2.out.c0
  have k1 := HT2.out.c1
  go_wp2_with fail
  refine (awake_any _).mono ?_
  rintro e w3 ⟨rfl, hb⟩
  have HB3 := Lib.hid (HB2.out.trans (hb.mono HB2.out.size))
  clear hb
  go_wp2
  go_ret
  exact ⟨rfl, HB3.out⟩
set_option maxRecDepth 100000 in
set_option maxHeartbeats 4000000 in
theorem out_high0 (A : Option Addr) (c : Nat) (xs : List Int) (tries slot gen : Int) (w : World) (hx : IntsI w (.slice A xs.length c) xs) (hs : slot = 0) (h : xs.length ≤ 50) (hg : ¬ gen < 1) (hm : 1048576 < gen) : Calls Try.prog 4 #[.slice A xs.length c, .int .i64 tries, .agg #[.int .i64 slot, .int .i64 gen]] w (Holds w) := by
  have n1 : decide (50 < (xs.length : Int)) = false := by simp; omega
  have n2 : decide (50 < xs.length) = false := by simp; omega
  subst hs
  have f3 : decide (gen < 1) = false := decide_eq_false hg
  have f4 : decide (1048576 < gen) = true := decide_eq_true hm
  clear h hg hm
  go_enter Try.func4, Try.ntmps4
  go_upto_region 1 with (fail)
  obtain ⟨T, hT⟩ : ∃ X, X = w.heap.size := ⟨_, rfl⟩
  rw [← hT]
  refine name_w (fun W => Cel W T 0 gen ∧ Below w.heap.size w W) ?_ ?_
  · rw [hT]
    exact ⟨Cel.new _ _ _, below_alloc _ _⟩
  clear hT
  rintro w0 ⟨h1, h2⟩
  have HT0 := Lib.hid h1
  have HB0 := Lib.hid h2
  clear h1 h2
  go_wp2_with fail
  refine (new_any _).mono ?_
  rintro e w1 ⟨g, rfl, hg, hz, hb⟩
  have HB1 := Lib.hid (HB0.out.trans (hb.mono HB0.out.size))
  have HZ1 : Hid (Fz w1 g 57 (F 0)) := Lib.hid hz
  have HT1 := Lib.hid (HT0.out.below hb)
  have HG : Hid (w.heap.size ≤ g) := Lib.hid (by have := HB0.out.size; omega)
  clear hz hb hg HB0 HT0
  go_wp2_with fail
  refine (awake_any _).mono ?_
  rintro e w2 ⟨rfl, hb⟩
  have HB2 := Lib.hid (HB1.out.trans (hb.mono HB1.out.size))
  have HZ2 := Lib.hid (HZ1.out.under hb HZ1.out.lt)
  have HT2 := Lib.hid (HT1.out.below hb)
  clear hb HB1 HZ1 HT1
  have k0 := HT2.out.c0
  have k1 := HT2.out.c1
  go_wp2_with fail
  refine (awake_any _).mono ?_
  rintro e w3 ⟨rfl, hb⟩
  have HB3 := Lib.hid (HB2.out.trans (hb.mono HB2.out.size))
  clear hb
  go_wp2
  go_ret
  exact ⟨rfl, HB3.out⟩
set_option maxRecDepth 100000 in
set_option maxHeartbeats 4000000 in
theorem out_low1 (A : Option Addr) (c : Nat) (xs : List Int) (tries slot gen : Int) (w : World) (hx : IntsI w (.slice A xs.length c) xs) (hs : slot = 1) (h : xs.length ≤ 50) (hg : gen < 1) : Calls Try.prog 4 #[.slice A xs.length c, .int .i64 tries, .agg #[.int .i64 slot, .int .i64 gen]] w (Holds w) := by
  have n1 : decide (50 < (xs.length : Int)) = false := by simp; omega
  have n2 : decide (50 < xs.length) = false := by simp; omega
  subst hs
  have f3 : decide (gen < 1) = true := decide_eq_true hg
  clear h hg
  go_enter Try.func4, Try.ntmps4
  go_upto_region 1 with (fail)
  obtain ⟨T, hT⟩ : ∃ X, X = w.heap.size := ⟨_, rfl⟩
  rw [← hT]
  refine name_w (fun W => Cel W T 1 gen ∧ Below w.heap.size w W) ?_ ?_
  · rw [hT]
    exact ⟨Cel.new _ _ _, below_alloc _ _⟩
  clear hT
  rintro w0 ⟨h1, h2⟩
  have HT0 := Lib.hid h1
  have HB0 := Lib.hid h2
  clear h1 h2
  go_wp2_with fail
  refine (new_any _).mono ?_
  rintro e w1 ⟨g, rfl, hg, hz, hb⟩
  have HB1 := Lib.hid (HB0.out.trans (hb.mono HB0.out.size))
  have HZ1 : Hid (Fz w1 g 57 (F 0)) := Lib.hid hz
  have HT1 := Lib.hid (HT0.out.below hb)
  have HG : Hid (w.heap.size ≤ g) := Lib.hid (by have := HB0.out.size; omega)
  clear hz hb hg HB0 HT0
  go_wp2_with fail
  refine (awake_any _).mono ?_
  rintro e w2 ⟨rfl, hb⟩
  have HB2 := Lib.hid (HB1.out.trans (hb.mono HB1.out.size))
  have HZ2 := Lib.hid (HZ1.out.under hb HZ1.out.lt)
  have HT2 := Lib.hid (HT1.out.below hb)
  clear hb HB1 HZ1 HT1
  have k0 := HT2.out.c0
  have k1 := HT2.out.c1
  go_wp2_with fail
  refine (awake_any _).mono ?_
  rintro e w3 ⟨rfl, hb⟩
  have HB3 := Lib.hid (HB2.out.trans (hb.mono HB2.out.size))
  clear hb
  go_wp2
  go_ret
  exact ⟨rfl, HB3.out⟩
set_option maxRecDepth 100000 in
set_option maxHeartbeats 4000000 in
theorem out_high1 (A : Option Addr) (c : Nat) (xs : List Int) (tries slot gen : Int) (w : World) (hx : IntsI w (.slice A xs.length c) xs) (hs : slot = 1) (h : xs.length ≤ 50) (hg : ¬ gen < 1) (hm : 1048576 < gen) : Calls Try.prog 4 #[.slice A xs.length c, .int .i64 tries, .agg #[.int .i64 slot, .int .i64 gen]] w (Holds w) := by
  have n1 : decide (50 < (xs.length : Int)) = false := by simp; omega
  have n2 : decide (50 < xs.length) = false := by simp; omega
  subst hs
  have f3 : decide (gen < 1) = false := decide_eq_false hg
  have f4 : decide (1048576 < gen) = true := decide_eq_true hm
  clear h hg hm
  go_enter Try.func4, Try.ntmps4
  go_upto_region 1 with (fail)
  obtain ⟨T, hT⟩ : ∃ X, X = w.heap.size := ⟨_, rfl⟩
  rw [← hT]
  refine name_w (fun W => Cel W T 1 gen ∧ Below w.heap.size w W) ?_ ?_
  · rw [hT]
    exact ⟨Cel.new _ _ _, below_alloc _ _⟩
  clear hT
  rintro w0 ⟨h1, h2⟩
  have HT0 := Lib.hid h1
  have HB0 := Lib.hid h2
  clear h1 h2
  go_wp2_with fail
  refine (new_any _).mono ?_
  rintro e w1 ⟨g, rfl, hg, hz, hb⟩
  have HB1 := Lib.hid (HB0.out.trans (hb.mono HB0.out.size))
  have HZ1 : Hid (Fz w1 g 57 (F 0)) := Lib.hid hz
  have HT1 := Lib.hid (HT0.out.below hb)
  have HG : Hid (w.heap.size ≤ g) := Lib.hid (by have := HB0.out.size; omega)
  clear hz hb hg HB0 HT0
  go_wp2_with fail
  refine (awake_any _).mono ?_
  rintro e w2 ⟨rfl, hb⟩
  have HB2 := Lib.hid (HB1.out.trans (hb.mono HB1.out.size))
  have HZ2 := Lib.hid (HZ1.out.under hb HZ1.out.lt)
  have HT2 := Lib.hid (HT1.out.below hb)
  clear hb HB1 HZ1 HT1
  have k0 := HT2.out.c0
  have k1 := HT2.out.c1
  go_wp2_with fail
  refine (awake_any _).mono ?_
  rintro e w3 ⟨rfl, hb⟩
  have HB3 := Lib.hid (HB2.out.trans (hb.mono HB2.out.size))
  clear hb
  go_wp2
  go_ret
  exact ⟨rfl, HB3.out⟩
end Go.Proofs.Ytjalmfomeehpgaa.clientTries
