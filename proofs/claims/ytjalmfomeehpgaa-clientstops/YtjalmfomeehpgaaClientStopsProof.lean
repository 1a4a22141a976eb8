/-
  switchback's ClientStops: of a route that is too old, or that can't be, just one call is done, and nothing changes; so if the power fails. For every input the law returns true, and each argument reads afterwards as it read before. No condition beside the row's own.
-/
import Derived.Test.YtjalmfomeehpgaaLift
import Derived.Test.YtjalmfomeehpgaaCli1
import Derived.Deep.RegionHeld3
namespace Go.Proofs.Ytjalmfomeehpgaa.clientStops
open Go.Proofs.Ytjalmfomeehpgaa
open Go.ChangeShapes Go.WideShapes Go.ChangeAt Go.RowKit
set_option linter.unusedVariables false

set_option maxRecDepth 100000 in
set_option maxHeartbeats 4000000 in
theorem walk_true (tries slot gen : Int) (w : World) : Calls Try.prog 5 #[.int .i64 tries, .agg #[.int .i64 slot, .int .i64 gen], .bool true] w (Holds w) := by
  have q33 := eq34
  go_enter Try.func5, Try.ntmps5
  go_upto_region 1 with (fail)
  obtain ⟨T, hT⟩ : ∃ X, X = w.heap.size := ⟨_, rfl⟩
  rw [← hT]
  refine name_w (fun W => Cel W T slot gen ∧ Below w.heap.size w W) ?_ ?_
  · rw [hT]
    exact ⟨Cel.new _ _ _, below_alloc _ _⟩
  clear hT
  rintro w0 ⟨h1, h2⟩
  have HT0 := Lib.hid h1
  have HB0 := Lib.hid h2
  clear h1 h2
  go_wp2_with fail
  refine (new_any _).mono ?_
  rintro e w1 ⟨g, rfl, hg, hz, hb⟩
  have HB1 := Lib.hid (HB0.out.trans (hb.mono HB0.out.size))
  have HZ1 : Hid (Fz w1 g 57 (F 0)) := Lib.hid hz
  have HT1 := Lib.hid (HT0.out.below hb)
  have HG : Hid (w.heap.size ≤ g) := Lib.hid (by have := HB0.out.size; omega)
  clear hz hb hg HB0 HT0
  go_wp2_with fail
  refine (awake_any _).mono ?_
  rintro e w2 ⟨rfl, hb⟩
  have HB2 := Lib.hid (HB1.out.trans (hb.mono HB1.out.size))
  have HZ2 := Lib.hid (HZ1.out.under hb HZ1.out.lt)
  have HT2 := Lib.hid (HT1.out.below hb)
  clear hb HB1 HZ1 HT1
  go_wp2_with fail
  refine (pk_new w.heap.size g _ w2 HZ2.out HG.out).mono ?_
  rintro e w3 ⟨b, rfl, hp, hb⟩
  have HP3 := Lib.hid hp
  have HB3 := Lib.hid (HB2.out.trans (hb.mono HB2.out.size))
  have HT3 := Lib.hid (HT2.out.below hb)
  clear hp hb HB2 HZ2 HT2 HG
  go_wp2_with fail
  refine (pk_call w.heap.size b g _ _ 9 1 w3 HP3.out (fineF 0 (by omega)) (by simp)).mono ?_
  rw [c9.1, c9.2.1, c9.2.2]
  rintro e w4 ⟨rfl, hp, ht⟩
  have HP4 := Lib.hid hp
  have HB4 := Lib.hid (ht.below HB3.out)
  have HT4 := Lib.hid (HT3.out.turn ht)
  clear hp ht HP3 HB3 HT3
  go_wp2_with fail
  refine (pk_cell w.heap.size b g _ _ w4 HP4.out).mono ?_
  rintro e w5 ⟨rfl, hb⟩
  have HP5 := Lib.hid (HP4.out.under hb)
  have HB5 := Lib.hid (HB4.out.trans (hb.mono HB4.out.size))
  have HT5 := Lib.hid (HT4.out.below hb)
  clear hb HP4 HB4 HT4
  go_upto_region 9 with (fail)
  obtain ⟨W, hW⟩ : ∃ X, X = w5.heap.size := ⟨_, rfl⟩
  rw [← hW]
  refine name_w (fun X => Pk X w.heap.size b g ⟨1, 9, [], 1⟩ (F 1) ∧ Below w.heap.size w X ∧ Cel X T slot gen ∧ Cel X W 1 9) ?_ ?_
  · rw [hW]
    have bb := below_alloc w5 (.cells #[.int .i64 1, .int .i64 9] 33)
    exact ⟨HP5.out.under bb, HB5.out.trans (bb.mono HB5.out.size), HT5.out.below bb, Cel.new _ _ _⟩
  clear hW HP5 HB5 HT5
  rintro w6 ⟨h1, h2, h3, h4⟩
  have HP6 := Lib.hid h1
  have HB6 := Lib.hid h2
  have HT6 := Lib.hid h3
  have HW6 := Lib.hid h4
  clear h1 h2 h3 h4
  go_wp2_with fail
  refine (pk_arm w.heap.size b g _ _ 0 w6 HP6.out).mono ?_
  rintro e w7 ⟨rfl, hp, ht⟩
  have HP7 : Hid (Pk w7 w.heap.size b g ⟨1, 9, [], 1⟩ ⟨true, 0, false, 1⟩) := Lib.hid (by rw [armed9] at hp; exact hp)
  have HB7 := Lib.hid (ht.below HB6.out)
  have HT7 := Lib.hid (HT6.out.turn ht)
  have HW7 := Lib.hid (HW6.out.turn ht)
  clear hp ht HP6 HB6 HT6 HW6
  have k0 := HT7.out.c0
  have k1 := HT7.out.c1
  obtain ⟨tt, htt⟩ : ∃ x, x = toldC ⟨1, 9, [], 1⟩ (⟨true, 0, false, 1⟩) gen slot := ⟨_, rfl⟩
  obtain ⟨sx, hsx⟩ : ∃ x, x = leftC ⟨1, 9, [], 1⟩ (⟨true, 0, false, 1⟩) gen slot := ⟨_, rfl⟩
  obtain ⟨fx, hfx⟩ : ∃ x, x = fuseC (⟨true, 0, false, 1⟩) gen slot := ⟨_, rfl⟩
  go_wp2_with fail
  refine (pk_set1 w.heap.size b g 5 ⟨1, 9, [], 1⟩ (⟨true, 0, false, 1⟩) gen slot tries w7 HP7.out bdA (by omega) (no10 rfl)).mono ?_
  rw [← htt, ← hsx, ← hfx]
  rintro e w8 ⟨rfl, hp, ht⟩
  have HP8 := Lib.hid hp
  have HB8 := Lib.hid (ht.below HB7.out)
  have HT8 := Lib.hid (HT7.out.turn ht)
  have HW8 := Lib.hid (HW7.out.turn ht)
  have HTT : Hid (tt = toldC ⟨1, 9, [], 1⟩ (⟨true, 0, false, 1⟩) gen slot) := Lib.hid htt
  have HS : Hid (sx = leftC ⟨1, 9, [], 1⟩ (⟨true, 0, false, 1⟩) gen slot) := Lib.hid hsx
  clear hp ht HP7 HB7 HT7 HW7 k0 k1 htt hsx hfx
  go_upto_region 12 with (fail)
  have k0 := HT8.out.c0
  have k1 := HT8.out.c1
  by_cases hs0 : slot = 0
  case pos =>
    subst hs0
    by_cases hg : gen < 1
    case pos =>
      have f3 : decide (gen < 1) = true := decide_eq_true hg
      have HX := Lib.hid hg
      clear hg
      obtain rfl : tt = 1 := by
        rw [HTT.out]
        exact (toldN (fun h => by unfold inRange at h; have := HX.out; omega)).1
      go_wp2
      clear k0 k1
      have HSL : Hid (sx.slot = 1 ∧ sx.gen = 9) := Lib.hid (by rw [HS.out, (toldN (s := ⟨1, 9, [], 1⟩) (f := ⟨true, 0, false, 1⟩) (fun h => by unfold inRange at h; have := HX.out; omega)).2.1]; exact ⟨rfl, rfl⟩)
      have HH : Hid (Has w w8 b g sx fx W 1 9) := Lib.hid ⟨HP8.out, HB8.out, HW8.out⟩
      have HR : Hid (∀ V, Has w V b g sx fx W 1 9 → Calls Try.prog 18 #[.pointer (some ⟨b, 0, none⟩)] V fun e w' => e = .returned (.agg #[.int .i64 1, .int .i64 9]) ∧ Has w w' b g sx fx W 1 9) := Lib.hid (fun V h => by
        have h5 := has_cell h
        rw [HSL.out.1, HSL.out.2] at h5
        exact h5)
      have x1 := HH.out.cells
      clear HP8 HB8 HT8 HW8 HSL HS HTT
      go_region_held3 (fun wx => wx.cell? ⟨W, 0, none⟩ = some (.int .i64 1) ∧ wx.cell? ⟨W, 1, none⟩ = some (.int .i64 9)) (first | exact x2 | exact x1) (first | (go_at_call 18; refine (HR.out _ HH.out.drew).mono ?_; rintro e wb ⟨rfl, hb1⟩; have x2 := hb1.cells))
      have HZ := Lib.hid hb1
      clear hb1 x1 x2 HR HH
      go_wp2
      go_ret
      exact ⟨rfl, HZ.out.low⟩
    have f3 : decide (gen < 1) = false := decide_eq_false hg
    by_cases hm : 1048576 < gen
    case pos =>
      have f4 : decide (1048576 < gen) = true := decide_eq_true hm
      have HX := Lib.hid hm
      clear hg hm
      obtain rfl : tt = 1 := by
        rw [HTT.out]
        exact (toldN (fun h => by unfold inRange at h; have := HX.out; omega)).1
      go_wp2
      clear k0 k1
      have HSL : Hid (sx.slot = 1 ∧ sx.gen = 9) := Lib.hid (by rw [HS.out, (toldN (s := ⟨1, 9, [], 1⟩) (f := ⟨true, 0, false, 1⟩) (fun h => by unfold inRange at h; have := HX.out; omega)).2.1]; exact ⟨rfl, rfl⟩)
      have HH : Hid (Has w w8 b g sx fx W 1 9) := Lib.hid ⟨HP8.out, HB8.out, HW8.out⟩
      have HR : Hid (∀ V, Has w V b g sx fx W 1 9 → Calls Try.prog 18 #[.pointer (some ⟨b, 0, none⟩)] V fun e w' => e = .returned (.agg #[.int .i64 1, .int .i64 9]) ∧ Has w w' b g sx fx W 1 9) := Lib.hid (fun V h => by
        have h5 := has_cell h
        rw [HSL.out.1, HSL.out.2] at h5
        exact h5)
      have x1 := HH.out.cells
      clear HP8 HB8 HT8 HW8 HSL HS HTT
      go_region_held3 (fun wx => wx.cell? ⟨W, 0, none⟩ = some (.int .i64 1) ∧ wx.cell? ⟨W, 1, none⟩ = some (.int .i64 9)) (first | exact x2 | exact x1) (first | (go_at_call 18; refine (HR.out _ HH.out.drew).mono ?_; rintro e wb ⟨rfl, hb1⟩; have x2 := hb1.cells))
      have HZ := Lib.hid hb1
      clear hb1 x1 x2 HR HH
      go_wp2
      go_ret
      exact ⟨rfl, HZ.out.low⟩
    have f4 : decide (1048576 < gen) = false := decide_eq_false hm
    have HI : Hid (inRange gen 0) := Lib.hid (by unfold inRange; omega)
    clear hg hm
    obtain rfl : tt = 2 := by
      rw [HTT.out]
      exact (told9A HI.out).1
    go_wp2
    clear k0 k1
    have HSL : Hid (sx.slot = 1 ∧ sx.gen = 9) := Lib.hid (by rw [HS.out, (told9A HI.out).2]; exact ⟨rfl, rfl⟩)
    have HH : Hid (Has w w8 b g sx fx W 1 9) := Lib.hid ⟨HP8.out, HB8.out, HW8.out⟩
    have HR : Hid (∀ V, Has w V b g sx fx W 1 9 → Calls Try.prog 18 #[.pointer (some ⟨b, 0, none⟩)] V fun e w' => e = .returned (.agg #[.int .i64 1, .int .i64 9]) ∧ Has w w' b g sx fx W 1 9) := Lib.hid (fun V h => by
      have h5 := has_cell h
      rw [HSL.out.1, HSL.out.2] at h5
      exact h5)
    have x1 := HH.out.cells
    clear HP8 HB8 HT8 HW8 HSL HS HTT
    go_region_held3 (fun wx => wx.cell? ⟨W, 0, none⟩ = some (.int .i64 1) ∧ wx.cell? ⟨W, 1, none⟩ = some (.int .i64 9)) (first | exact x2 | exact x1) (first | (go_at_call 18; refine (HR.out _ HH.out.drew).mono ?_; rintro e wb ⟨rfl, hb1⟩; have x2 := hb1.cells))
    have HZ := Lib.hid hb1
    clear hb1 x1 x2 HR HH
    go_wp2
    go_ret
    exact ⟨rfl, HZ.out.low⟩
  by_cases hs1 : slot = 1
  case pos =>
    subst hs1
    by_cases hg : gen < 1
    case pos =>
      have f3 : decide (gen < 1) = true := decide_eq_true hg
      have HX := Lib.hid hg
      clear hg
      obtain rfl : tt = 1 := by
        rw [HTT.out]
        exact (toldN (fun h => by unfold inRange at h; have := HX.out; omega)).1
      go_wp2
      clear k0 k1
      have HSL : Hid (sx.slot = 1 ∧ sx.gen = 9) := Lib.hid (by rw [HS.out, (toldN (s := ⟨1, 9, [], 1⟩) (f := ⟨true, 0, false, 1⟩) (fun h => by unfold inRange at h; have := HX.out; omega)).2.1]; exact ⟨rfl, rfl⟩)
      have HH : Hid (Has w w8 b g sx fx W 1 9) := Lib.hid ⟨HP8.out, HB8.out, HW8.out⟩
      have HR : Hid (∀ V, Has w V b g sx fx W 1 9 → Calls Try.prog 18 #[.pointer (some ⟨b, 0, none⟩)] V fun e w' => e = .returned (.agg #[.int .i64 1, .int .i64 9]) ∧ Has w w' b g sx fx W 1 9) := Lib.hid (fun V h => by
        have h5 := has_cell h
        rw [HSL.out.1, HSL.out.2] at h5
        exact h5)
      have x1 := HH.out.cells
      clear HP8 HB8 HT8 HW8 HSL HS HTT
      go_region_held3 (fun wx => wx.cell? ⟨W, 0, none⟩ = some (.int .i64 1) ∧ wx.cell? ⟨W, 1, none⟩ = some (.int .i64 9)) (first | exact x2 | exact x1) (first | (go_at_call 18; refine (HR.out _ HH.out.drew).mono ?_; rintro e wb ⟨rfl, hb1⟩; have x2 := hb1.cells))
      have HZ := Lib.hid hb1
      clear hb1 x1 x2 HR HH
      go_wp2
      go_ret
      exact ⟨rfl, HZ.out.low⟩
    have f3 : decide (gen < 1) = false := decide_eq_false hg
    by_cases hm : 1048576 < gen
    case pos =>
      have f4 : decide (1048576 < gen) = true := decide_eq_true hm
      have HX := Lib.hid hm
      clear hg hm
      obtain rfl : tt = 1 := by
        rw [HTT.out]
        exact (toldN (fun h => by unfold inRange at h; have := HX.out; omega)).1
      go_wp2
      clear k0 k1
      have HSL : Hid (sx.slot = 1 ∧ sx.gen = 9) := Lib.hid (by rw [HS.out, (toldN (s := ⟨1, 9, [], 1⟩) (f := ⟨true, 0, false, 1⟩) (fun h => by unfold inRange at h; have := HX.out; omega)).2.1]; exact ⟨rfl, rfl⟩)
      have HH : Hid (Has w w8 b g sx fx W 1 9) := Lib.hid ⟨HP8.out, HB8.out, HW8.out⟩
      have HR : Hid (∀ V, Has w V b g sx fx W 1 9 → Calls Try.prog 18 #[.pointer (some ⟨b, 0, none⟩)] V fun e w' => e = .returned (.agg #[.int .i64 1, .int .i64 9]) ∧ Has w w' b g sx fx W 1 9) := Lib.hid (fun V h => by
        have h5 := has_cell h
        rw [HSL.out.1, HSL.out.2] at h5
        exact h5)
      have x1 := HH.out.cells
      clear HP8 HB8 HT8 HW8 HSL HS HTT
      go_region_held3 (fun wx => wx.cell? ⟨W, 0, none⟩ = some (.int .i64 1) ∧ wx.cell? ⟨W, 1, none⟩ = some (.int .i64 9)) (first | exact x2 | exact x1) (first | (go_at_call 18; refine (HR.out _ HH.out.drew).mono ?_; rintro e wb ⟨rfl, hb1⟩; have x2 := hb1.cells))
      have HZ := Lib.hid hb1
      clear hb1 x1 x2 HR HH
      go_wp2
      go_ret
      exact ⟨rfl, HZ.out.low⟩
    have f4 : decide (1048576 < gen) = false := decide_eq_false hm
    have HI : Hid (inRange gen 1) := Lib.hid (by unfold inRange; omega)
    clear hg hm
    obtain rfl : tt = 2 := by
      rw [HTT.out]
      exact (told9A HI.out).1
    go_wp2
    clear k0 k1
    have HSL : Hid (sx.slot = 1 ∧ sx.gen = 9) := Lib.hid (by rw [HS.out, (told9A HI.out).2]; exact ⟨rfl, rfl⟩)
    have HH : Hid (Has w w8 b g sx fx W 1 9) := Lib.hid ⟨HP8.out, HB8.out, HW8.out⟩
    have HR : Hid (∀ V, Has w V b g sx fx W 1 9 → Calls Try.prog 18 #[.pointer (some ⟨b, 0, none⟩)] V fun e w' => e = .returned (.agg #[.int .i64 1, .int .i64 9]) ∧ Has w w' b g sx fx W 1 9) := Lib.hid (fun V h => by
      have h5 := has_cell h
      rw [HSL.out.1, HSL.out.2] at h5
      exact h5)
    have x1 := HH.out.cells
    clear HP8 HB8 HT8 HW8 HSL HS HTT
    go_region_held3 (fun wx => wx.cell? ⟨W, 0, none⟩ = some (.int .i64 1) ∧ wx.cell? ⟨W, 1, none⟩ = some (.int .i64 9)) (first | exact x2 | exact x1) (first | (go_at_call 18; refine (HR.out _ HH.out.drew).mono ?_; rintro e wb ⟨rfl, hb1⟩; have x2 := hb1.cells))
    have HZ := Lib.hid hb1
    clear hb1 x1 x2 HR HH
    go_wp2
    go_ret
    exact ⟨rfl, HZ.out.low⟩
  have f1 : (slot == 0) = false := by simpa using hs0
  have f2 : (slot != 0) = true := by simpa using hs0
  have f3 : (slot == 1) = false := by simpa using hs1
  have f4 : (slot != 1) = true := by simpa using hs1
  have HX : Hid (slot ≠ 0 ∧ slot ≠ 1) := Lib.hid ⟨hs0, hs1⟩
  clear hs0 hs1
  obtain rfl : tt = 1 := by
    rw [HTT.out]
    exact (toldN (fun h => by unfold inRange at h; have := HX.out; omega)).1
  go_wp2
  clear k0 k1
  have HSL : Hid (sx.slot = 1 ∧ sx.gen = 9) := Lib.hid (by rw [HS.out, (toldN (s := ⟨1, 9, [], 1⟩) (f := ⟨true, 0, false, 1⟩) (fun h => by unfold inRange at h; have := HX.out; omega)).2.1]; exact ⟨rfl, rfl⟩)
  have HH : Hid (Has w w8 b g sx fx W 1 9) := Lib.hid ⟨HP8.out, HB8.out, HW8.out⟩
  have HR : Hid (∀ V, Has w V b g sx fx W 1 9 → Calls Try.prog 18 #[.pointer (some ⟨b, 0, none⟩)] V fun e w' => e = .returned (.agg #[.int .i64 1, .int .i64 9]) ∧ Has w w' b g sx fx W 1 9) := Lib.hid (fun V h => by
    have h5 := has_cell h
    rw [HSL.out.1, HSL.out.2] at h5
    exact h5)
  have x1 := HH.out.cells
  clear HP8 HB8 HT8 HW8 HSL HS HTT
  go_region_held3 (fun wx => wx.cell? ⟨W, 0, none⟩ = some (.int .i64 1) ∧ wx.cell? ⟨W, 1, none⟩ = some (.int .i64 9)) (first | exact x2 | exact x1) (first | (go_at_call 18; refine (HR.out _ HH.out.drew).mono ?_; rintro e wb ⟨rfl, hb1⟩; have x2 := hb1.cells))
  have HZ := Lib.hid hb1
  clear hb1 x1 x2 HR HH
  go_wp2
  go_ret
  exact ⟨rfl, HZ.out.low⟩
set_option maxRecDepth 100000 in
set_option maxHeartbeats 4000000 in
theorem walk_false (tries slot gen : Int) (w : World) : Calls Try.prog 5 #[.int .i64 tries, .agg #[.int .i64 slot, .int .i64 gen], .bool false] w (Holds w) := by
  have q33 := eq34
  go_enter Try.func5, Try.ntmps5
  go_upto_region 1 with (fail)
  obtain ⟨T, hT⟩ : ∃ X, X = w.heap.size := ⟨_, rfl⟩
  rw [← hT]
  refine name_w (fun W => Cel W T slot gen ∧ Below w.heap.size w W) ?_ ?_
  · rw [hT]
    exact ⟨Cel.new _ _ _, below_alloc _ _⟩
  clear hT
  rintro w0 ⟨h1, h2⟩
  have HT0 := Lib.hid h1
  have HB0 := Lib.hid h2
  clear h1 h2
  go_wp2_with fail
  refine (new_any _).mono ?_
  rintro e w1 ⟨g, rfl, hg, hz, hb⟩
  have HB1 := Lib.hid (HB0.out.trans (hb.mono HB0.out.size))
  have HZ1 : Hid (Fz w1 g 57 (F 0)) := Lib.hid hz
  have HT1 := Lib.hid (HT0.out.below hb)
  have HG : Hid (w.heap.size ≤ g) := Lib.hid (by have := HB0.out.size; omega)
  clear hz hb hg HB0 HT0
  go_wp2_with fail
  refine (awake_any _).mono ?_
  rintro e w2 ⟨rfl, hb⟩
  have HB2 := Lib.hid (HB1.out.trans (hb.mono HB1.out.size))
  have HZ2 := Lib.hid (HZ1.out.under hb HZ1.out.lt)
  have HT2 := Lib.hid (HT1.out.below hb)
  clear hb HB1 HZ1 HT1
  go_wp2_with fail
  refine (pk_new w.heap.size g _ w2 HZ2.out HG.out).mono ?_
  rintro e w3 ⟨b, rfl, hp, hb⟩
  have HP3 := Lib.hid hp
  have HB3 := Lib.hid (HB2.out.trans (hb.mono HB2.out.size))
  have HT3 := Lib.hid (HT2.out.below hb)
  clear hp hb HB2 HZ2 HT2 HG
  go_wp2_with fail
  refine (pk_call w.heap.size b g _ _ 9 1 w3 HP3.out (fineF 0 (by omega)) (by simp)).mono ?_
  rw [c9.1, c9.2.1, c9.2.2]
  rintro e w4 ⟨rfl, hp, ht⟩
  have HP4 := Lib.hid hp
  have HB4 := Lib.hid (ht.below HB3.out)
  have HT4 := Lib.hid (HT3.out.turn ht)
  clear hp ht HP3 HB3 HT3
  go_wp2_with fail
  refine (pk_cell w.heap.size b g _ _ w4 HP4.out).mono ?_
  rintro e w5 ⟨rfl, hb⟩
  have HP5 := Lib.hid (HP4.out.under hb)
  have HB5 := Lib.hid (HB4.out.trans (hb.mono HB4.out.size))
  have HT5 := Lib.hid (HT4.out.below hb)
  clear hb HP4 HB4 HT4
  go_upto_region 9 with (fail)
  obtain ⟨W, hW⟩ : ∃ X, X = w5.heap.size := ⟨_, rfl⟩
  rw [← hW]
  refine name_w (fun X => Pk X w.heap.size b g ⟨1, 9, [], 1⟩ (F 1) ∧ Below w.heap.size w X ∧ Cel X T slot gen ∧ Cel X W 1 9) ?_ ?_
  · rw [hW]
    have bb := below_alloc w5 (.cells #[.int .i64 1, .int .i64 9] 33)
    exact ⟨HP5.out.under bb, HB5.out.trans (bb.mono HB5.out.size), HT5.out.below bb, Cel.new _ _ _⟩
  clear hW HP5 HB5 HT5
  rintro w6 ⟨h1, h2, h3, h4⟩
  have HP6 := Lib.hid h1
  have HB6 := Lib.hid h2
  have HT6 := Lib.hid h3
  have HW6 := Lib.hid h4
  clear h1 h2 h3 h4
  have k0 := HT6.out.c0
  have k1 := HT6.out.c1
  obtain ⟨tt, htt⟩ : ∃ x, x = toldC ⟨1, 9, [], 1⟩ (F 1) gen slot := ⟨_, rfl⟩
  obtain ⟨sx, hsx⟩ : ∃ x, x = leftC ⟨1, 9, [], 1⟩ (F 1) gen slot := ⟨_, rfl⟩
  obtain ⟨fx, hfx⟩ : ∃ x, x = fuseC (F 1) gen slot := ⟨_, rfl⟩
  go_wp2_with fail
  refine (pk_set1 w.heap.size b g 5 ⟨1, 9, [], 1⟩ (F 1) gen slot tries w6 HP6.out bdN (by omega) (no10 rfl)).mono ?_
  rw [← htt, ← hsx, ← hfx]
  rintro e w7 ⟨rfl, hp, ht⟩
  have HP7 := Lib.hid hp
  have HB7 := Lib.hid (ht.below HB6.out)
  have HT7 := Lib.hid (HT6.out.turn ht)
  have HW7 := Lib.hid (HW6.out.turn ht)
  have HTT : Hid (tt = toldC ⟨1, 9, [], 1⟩ (F 1) gen slot) := Lib.hid htt
  have HS : Hid (sx = leftC ⟨1, 9, [], 1⟩ (F 1) gen slot) := Lib.hid hsx
  clear hp ht HP6 HB6 HT6 HW6 k0 k1 htt hsx hfx
  go_upto_region 12 with (fail)
  have k0 := HT7.out.c0
  have k1 := HT7.out.c1
  by_cases hs0 : slot = 0
  case pos =>
    subst hs0
    by_cases hg : gen < 1
    case pos =>
      have f3 : decide (gen < 1) = true := decide_eq_true hg
      have HX := Lib.hid hg
      clear hg
      obtain rfl : tt = 1 := by
        rw [HTT.out]
        exact (toldN (fun h => by unfold inRange at h; have := HX.out; omega)).1
      go_wp2
      clear k0 k1
      have HSL : Hid (sx.slot = 1 ∧ sx.gen = 9) := Lib.hid (by rw [HS.out, (toldN (s := ⟨1, 9, [], 1⟩) (f := F 1) (fun h => by unfold inRange at h; have := HX.out; omega)).2.1]; exact ⟨rfl, rfl⟩)
      have HH : Hid (Has w w7 b g sx fx W 1 9) := Lib.hid ⟨HP7.out, HB7.out, HW7.out⟩
      have HR : Hid (∀ V, Has w V b g sx fx W 1 9 → Calls Try.prog 18 #[.pointer (some ⟨b, 0, none⟩)] V fun e w' => e = .returned (.agg #[.int .i64 1, .int .i64 9]) ∧ Has w w' b g sx fx W 1 9) := Lib.hid (fun V h => by
        have h5 := has_cell h
        rw [HSL.out.1, HSL.out.2] at h5
        exact h5)
      have x1 := HH.out.cells
      clear HP7 HB7 HT7 HW7 HSL HS HTT
      go_region_held3 (fun wx => wx.cell? ⟨W, 0, none⟩ = some (.int .i64 1) ∧ wx.cell? ⟨W, 1, none⟩ = some (.int .i64 9)) (first | exact x2 | exact x1) (first | (go_at_call 18; refine (HR.out _ HH.out.drew).mono ?_; rintro e wb ⟨rfl, hb1⟩; have x2 := hb1.cells))
      have HZ := Lib.hid hb1
      clear hb1 x1 x2 HR HH
      go_wp2
      go_ret
      exact ⟨rfl, HZ.out.low⟩
    have f3 : decide (gen < 1) = false := decide_eq_false hg
    by_cases hm : 1048576 < gen
    case pos =>
      have f4 : decide (1048576 < gen) = true := decide_eq_true hm
      have HX := Lib.hid hm
      clear hg hm
      obtain rfl : tt = 1 := by
        rw [HTT.out]
        exact (toldN (fun h => by unfold inRange at h; have := HX.out; omega)).1
      go_wp2
      clear k0 k1
      have HSL : Hid (sx.slot = 1 ∧ sx.gen = 9) := Lib.hid (by rw [HS.out, (toldN (s := ⟨1, 9, [], 1⟩) (f := F 1) (fun h => by unfold inRange at h; have := HX.out; omega)).2.1]; exact ⟨rfl, rfl⟩)
      have HH : Hid (Has w w7 b g sx fx W 1 9) := Lib.hid ⟨HP7.out, HB7.out, HW7.out⟩
      have HR : Hid (∀ V, Has w V b g sx fx W 1 9 → Calls Try.prog 18 #[.pointer (some ⟨b, 0, none⟩)] V fun e w' => e = .returned (.agg #[.int .i64 1, .int .i64 9]) ∧ Has w w' b g sx fx W 1 9) := Lib.hid (fun V h => by
        have h5 := has_cell h
        rw [HSL.out.1, HSL.out.2] at h5
        exact h5)
      have x1 := HH.out.cells
      clear HP7 HB7 HT7 HW7 HSL HS HTT
      go_region_held3 (fun wx => wx.cell? ⟨W, 0, none⟩ = some (.int .i64 1) ∧ wx.cell? ⟨W, 1, none⟩ = some (.int .i64 9)) (first | exact x2 | exact x1) (first | (go_at_call 18; refine (HR.out _ HH.out.drew).mono ?_; rintro e wb ⟨rfl, hb1⟩; have x2 := hb1.cells))
      have HZ := Lib.hid hb1
      clear hb1 x1 x2 HR HH
      go_wp2
      go_ret
      exact ⟨rfl, HZ.out.low⟩
    have f4 : decide (1048576 < gen) = false := decide_eq_false hm
    have HI : Hid (inRange gen 0) := Lib.hid (by unfold inRange; omega)
    by_cases h9 : gen < 9
    case pos =>
      have f5 : decide (gen < 9) = true := decide_eq_true h9
      have HX := Lib.hid h9
      clear hg hm h9
      obtain rfl : tt = 11 := by
        rw [HTT.out]
        exact (told9old HI.out (.inl HX.out)).1
      go_wp2
      clear k0 k1
      have HSL : Hid (sx.slot = 1 ∧ sx.gen = 9) := Lib.hid ((told9old HI.out (.inl HX.out)).2 _ HS.out)
      have HH : Hid (Has w w7 b g sx fx W 1 9) := Lib.hid ⟨HP7.out, HB7.out, HW7.out⟩
      have HR : Hid (∀ V, Has w V b g sx fx W 1 9 → Calls Try.prog 18 #[.pointer (some ⟨b, 0, none⟩)] V fun e w' => e = .returned (.agg #[.int .i64 1, .int .i64 9]) ∧ Has w w' b g sx fx W 1 9) := Lib.hid (fun V h => by
        have h5 := has_cell h
        rw [HSL.out.1, HSL.out.2] at h5
        exact h5)
      have x1 := HH.out.cells
      clear HP7 HB7 HT7 HW7 HSL HS HTT
      go_region_held3 (fun wx => wx.cell? ⟨W, 0, none⟩ = some (.int .i64 1) ∧ wx.cell? ⟨W, 1, none⟩ = some (.int .i64 9)) (first | exact x2 | exact x1) (first | (go_at_call 18; refine (HR.out _ HH.out.drew).mono ?_; rintro e wb ⟨rfl, hb1⟩; have x2 := hb1.cells))
      have HZ := Lib.hid hb1
      clear hb1 x1 x2 HR HH
      go_wp2
      go_ret
      exact ⟨rfl, HZ.out.low⟩
    have f5 : decide (gen < 9) = false := decide_eq_false h9
    by_cases h8 : gen = 9
    case pos =>
      subst h8
      clear hg hm h9
      obtain rfl : tt = 11 := by
        rw [HTT.out]
        exact (told9old HI.out (.inr ⟨rfl, rfl⟩)).1
      go_wp2
      clear k0 k1
      have HSL : Hid (sx.slot = 1 ∧ sx.gen = 9) := Lib.hid ((told9old HI.out (.inr ⟨rfl, rfl⟩)).2 _ HS.out)
      have HH : Hid (Has w w7 b g sx fx W 1 9) := Lib.hid ⟨HP7.out, HB7.out, HW7.out⟩
      have HR : Hid (∀ V, Has w V b g sx fx W 1 9 → Calls Try.prog 18 #[.pointer (some ⟨b, 0, none⟩)] V fun e w' => e = .returned (.agg #[.int .i64 1, .int .i64 9]) ∧ Has w w' b g sx fx W 1 9) := Lib.hid (fun V h => by
        have h5 := has_cell h
        rw [HSL.out.1, HSL.out.2] at h5
        exact h5)
      have x1 := HH.out.cells
      clear HP7 HB7 HT7 HW7 HSL HS HTT
      go_region_held3 (fun wx => wx.cell? ⟨W, 0, none⟩ = some (.int .i64 1) ∧ wx.cell? ⟨W, 1, none⟩ = some (.int .i64 9)) (first | exact x2 | exact x1) (first | (go_at_call 18; refine (HR.out _ HH.out.drew).mono ?_; rintro e wb ⟨rfl, hb1⟩; have x2 := hb1.cells))
      have HZ := Lib.hid hb1
      clear hb1 x1 x2 HR HH
      go_wp2
      go_ret
      exact ⟨rfl, HZ.out.low⟩
    have f6 : (gen == 9) = false := by simpa using h8
    have HX : Hid (9 < gen) := Lib.hid (by omega)
    clear hg hm h9 h8
    obtain rfl : tt = 0 := by
      rw [HTT.out]
      exact (told9ok HI.out (.inl HX.out)).1
    go_wp2
    clear k0 k1
    have HSL : Hid (sx.slot = 0 ∧ sx.gen = gen) := Lib.hid ((told9ok HI.out (.inl HX.out)).2 _ HS.out)
    have HH : Hid (Has w w7 b g sx fx T 0 gen) := Lib.hid ⟨HP7.out, HB7.out, HT7.out⟩
    have HR : Hid (∀ V, Has w V b g sx fx T 0 gen → Calls Try.prog 18 #[.pointer (some ⟨b, 0, none⟩)] V fun e w' => e = .returned (.agg #[.int .i64 0, .int .i64 gen]) ∧ Has w w' b g sx fx T 0 gen) := Lib.hid (fun V h => by
      have h5 := has_cell h
      rw [HSL.out.1, HSL.out.2] at h5
      exact h5)
    have x1 := HH.out.cells
    clear HP7 HB7 HT7 HW7 HSL HS HTT
    go_region_held3 (fun wx => wx.cell? ⟨T, 0, none⟩ = some (.int .i64 0) ∧ wx.cell? ⟨T, 1, none⟩ = some (.int .i64 gen)) (first | exact x2 | exact x1) (first | (go_at_call 18; refine (HR.out _ HH.out.drew).mono ?_; rintro e wb ⟨rfl, hb1⟩; have x2 := hb1.cells))
    have HZ := Lib.hid hb1
    clear hb1 x1 x2 HR HH
    go_wp2
    go_ret
    exact ⟨rfl, HZ.out.low⟩
  by_cases hs1 : slot = 1
  case pos =>
    subst hs1
    by_cases hg : gen < 1
    case pos =>
      have f3 : decide (gen < 1) = true := decide_eq_true hg
      have HX := Lib.hid hg
      clear hg
      obtain rfl : tt = 1 := by
        rw [HTT.out]
        exact (toldN (fun h => by unfold inRange at h; have := HX.out; omega)).1
      go_wp2
      clear k0 k1
      have HSL : Hid (sx.slot = 1 ∧ sx.gen = 9) := Lib.hid (by rw [HS.out, (toldN (s := ⟨1, 9, [], 1⟩) (f := F 1) (fun h => by unfold inRange at h; have := HX.out; omega)).2.1]; exact ⟨rfl, rfl⟩)
      have HH : Hid (Has w w7 b g sx fx W 1 9) := Lib.hid ⟨HP7.out, HB7.out, HW7.out⟩
      have HR : Hid (∀ V, Has w V b g sx fx W 1 9 → Calls Try.prog 18 #[.pointer (some ⟨b, 0, none⟩)] V fun e w' => e = .returned (.agg #[.int .i64 1, .int .i64 9]) ∧ Has w w' b g sx fx W 1 9) := Lib.hid (fun V h => by
        have h5 := has_cell h
        rw [HSL.out.1, HSL.out.2] at h5
        exact h5)
      have x1 := HH.out.cells
      clear HP7 HB7 HT7 HW7 HSL HS HTT
      go_region_held3 (fun wx => wx.cell? ⟨W, 0, none⟩ = some (.int .i64 1) ∧ wx.cell? ⟨W, 1, none⟩ = some (.int .i64 9)) (first | exact x2 | exact x1) (first | (go_at_call 18; refine (HR.out _ HH.out.drew).mono ?_; rintro e wb ⟨rfl, hb1⟩; have x2 := hb1.cells))
      have HZ := Lib.hid hb1
      clear hb1 x1 x2 HR HH
      go_wp2
      go_ret
      exact ⟨rfl, HZ.out.low⟩
    have f3 : decide (gen < 1) = false := decide_eq_false hg
    by_cases hm : 1048576 < gen
    case pos =>
      have f4 : decide (1048576 < gen) = true := decide_eq_true hm
      have HX := Lib.hid hm
      clear hg hm
      obtain rfl : tt = 1 := by
        rw [HTT.out]
        exact (toldN (fun h => by unfold inRange at h; have := HX.out; omega)).1
      go_wp2
      clear k0 k1
      have HSL : Hid (sx.slot = 1 ∧ sx.gen = 9) := Lib.hid (by rw [HS.out, (toldN (s := ⟨1, 9, [], 1⟩) (f := F 1) (fun h => by unfold inRange at h; have := HX.out; omega)).2.1]; exact ⟨rfl, rfl⟩)
      have HH : Hid (Has w w7 b g sx fx W 1 9) := Lib.hid ⟨HP7.out, HB7.out, HW7.out⟩
      have HR : Hid (∀ V, Has w V b g sx fx W 1 9 → Calls Try.prog 18 #[.pointer (some ⟨b, 0, none⟩)] V fun e w' => e = .returned (.agg #[.int .i64 1, .int .i64 9]) ∧ Has w w' b g sx fx W 1 9) := Lib.hid (fun V h => by
        have h5 := has_cell h
        rw [HSL.out.1, HSL.out.2] at h5
        exact h5)
      have x1 := HH.out.cells
      clear HP7 HB7 HT7 HW7 HSL HS HTT
      go_region_held3 (fun wx => wx.cell? ⟨W, 0, none⟩ = some (.int .i64 1) ∧ wx.cell? ⟨W, 1, none⟩ = some (.int .i64 9)) (first | exact x2 | exact x1) (first | (go_at_call 18; refine (HR.out _ HH.out.drew).mono ?_; rintro e wb ⟨rfl, hb1⟩; have x2 := hb1.cells))
      have HZ := Lib.hid hb1
      clear hb1 x1 x2 HR HH
      go_wp2
      go_ret
      exact ⟨rfl, HZ.out.low⟩
    have f4 : decide (1048576 < gen) = false := decide_eq_false hm
    have HI : Hid (inRange gen 1) := Lib.hid (by unfold inRange; omega)
    by_cases h9 : gen < 9
    case pos =>
      have f5 : decide (gen < 9) = true := decide_eq_true h9
      have HX := Lib.hid h9
      clear hg hm h9
      obtain rfl : tt = 11 := by
        rw [HTT.out]
        exact (told9old HI.out (.inl HX.out)).1
      go_wp2
      clear k0 k1
      have HSL : Hid (sx.slot = 1 ∧ sx.gen = 9) := Lib.hid ((told9old HI.out (.inl HX.out)).2 _ HS.out)
      have HH : Hid (Has w w7 b g sx fx W 1 9) := Lib.hid ⟨HP7.out, HB7.out, HW7.out⟩
      have HR : Hid (∀ V, Has w V b g sx fx W 1 9 → Calls Try.prog 18 #[.pointer (some ⟨b, 0, none⟩)] V fun e w' => e = .returned (.agg #[.int .i64 1, .int .i64 9]) ∧ Has w w' b g sx fx W 1 9) := Lib.hid (fun V h => by
        have h5 := has_cell h
        rw [HSL.out.1, HSL.out.2] at h5
        exact h5)
      have x1 := HH.out.cells
      clear HP7 HB7 HT7 HW7 HSL HS HTT
      go_region_held3 (fun wx => wx.cell? ⟨W, 0, none⟩ = some (.int .i64 1) ∧ wx.cell? ⟨W, 1, none⟩ = some (.int .i64 9)) (first | exact x2 | exact x1) (first | (go_at_call 18; refine (HR.out _ HH.out.drew).mono ?_; rintro e wb ⟨rfl, hb1⟩; have x2 := hb1.cells))
      have HZ := Lib.hid hb1
      clear hb1 x1 x2 HR HH
      go_wp2
      go_ret
      exact ⟨rfl, HZ.out.low⟩
    have f5 : decide (gen < 9) = false := decide_eq_false h9
    by_cases h8 : gen = 9
    case pos =>
      subst h8
      clear hg hm h9
      obtain rfl : tt = 0 := by
        rw [HTT.out]
        exact (told9ok HI.out (.inr ⟨rfl, rfl⟩)).1
      go_wp2
      clear k0 k1
      have HSL : Hid (sx.slot = 1 ∧ sx.gen = 9) := Lib.hid ((told9ok HI.out (.inr ⟨rfl, rfl⟩)).2 _ HS.out)
      have HH : Hid (Has w w7 b g sx fx T 1 9) := Lib.hid ⟨HP7.out, HB7.out, HT7.out⟩
      have HR : Hid (∀ V, Has w V b g sx fx T 1 9 → Calls Try.prog 18 #[.pointer (some ⟨b, 0, none⟩)] V fun e w' => e = .returned (.agg #[.int .i64 1, .int .i64 9]) ∧ Has w w' b g sx fx T 1 9) := Lib.hid (fun V h => by
        have h5 := has_cell h
        rw [HSL.out.1, HSL.out.2] at h5
        exact h5)
      have x1 := HH.out.cells
      clear HP7 HB7 HT7 HW7 HSL HS HTT
      go_region_held3 (fun wx => wx.cell? ⟨T, 0, none⟩ = some (.int .i64 1) ∧ wx.cell? ⟨T, 1, none⟩ = some (.int .i64 9)) (first | exact x2 | exact x1) (first | (go_at_call 18; refine (HR.out _ HH.out.drew).mono ?_; rintro e wb ⟨rfl, hb1⟩; have x2 := hb1.cells))
      have HZ := Lib.hid hb1
      clear hb1 x1 x2 HR HH
      go_wp2
      go_ret
      exact ⟨rfl, HZ.out.low⟩
    have f6 : (gen == 9) = false := by simpa using h8
    have HX : Hid (9 < gen) := Lib.hid (by omega)
    clear hg hm h9 h8
    obtain rfl : tt = 0 := by
      rw [HTT.out]
      exact (told9ok HI.out (.inl HX.out)).1
    go_wp2
    clear k0 k1
    have HSL : Hid (sx.slot = 1 ∧ sx.gen = gen) := Lib.hid ((told9ok HI.out (.inl HX.out)).2 _ HS.out)
    have HH : Hid (Has w w7 b g sx fx T 1 gen) := Lib.hid ⟨HP7.out, HB7.out, HT7.out⟩
    have HR : Hid (∀ V, Has w V b g sx fx T 1 gen → Calls Try.prog 18 #[.pointer (some ⟨b, 0, none⟩)] V fun e w' => e = .returned (.agg #[.int .i64 1, .int .i64 gen]) ∧ Has w w' b g sx fx T 1 gen) := Lib.hid (fun V h => by
      have h5 := has_cell h
      rw [HSL.out.1, HSL.out.2] at h5
      exact h5)
    have x1 := HH.out.cells
    clear HP7 HB7 HT7 HW7 HSL HS HTT
    go_region_held3 (fun wx => wx.cell? ⟨T, 0, none⟩ = some (.int .i64 1) ∧ wx.cell? ⟨T, 1, none⟩ = some (.int .i64 gen)) (first | exact x2 | exact x1) (first | (go_at_call 18; refine (HR.out _ HH.out.drew).mono ?_; rintro e wb ⟨rfl, hb1⟩; have x2 := hb1.cells))
    have HZ := Lib.hid hb1
    clear hb1 x1 x2 HR HH
    go_wp2
    go_ret
    exact ⟨rfl, HZ.out.low⟩
  have f1 : (slot == 0) = false := by simpa using hs0
  have f2 : (slot != 0) = true := by simpa using hs0
  have f3 : (slot == 1) = false := by simpa using hs1
  have f4 : (slot != 1) = true := by simpa using hs1
  have HX : Hid (slot ≠ 0 ∧ slot ≠ 1) := Lib.hid ⟨hs0, hs1⟩
  clear hs0 hs1
  obtain rfl : tt = 1 := by
    rw [HTT.out]
    exact (toldN (fun h => by unfold inRange at h; have := HX.out; omega)).1
  go_wp2
  clear k0 k1
  have HSL : Hid (sx.slot = 1 ∧ sx.gen = 9) := Lib.hid (by rw [HS.out, (toldN (s := ⟨1, 9, [], 1⟩) (f := F 1) (fun h => by unfold inRange at h; have := HX.out; omega)).2.1]; exact ⟨rfl, rfl⟩)
  have HH : Hid (Has w w7 b g sx fx W 1 9) := Lib.hid ⟨HP7.out, HB7.out, HW7.out⟩
  have HR : Hid (∀ V, Has w V b g sx fx W 1 9 → Calls Try.prog 18 #[.pointer (some ⟨b, 0, none⟩)] V fun e w' => e = .returned (.agg #[.int .i64 1, .int .i64 9]) ∧ Has w w' b g sx fx W 1 9) := Lib.hid (fun V h => by
    have h5 := has_cell h
    rw [HSL.out.1, HSL.out.2] at h5
    exact h5)
  have x1 := HH.out.cells
  clear HP7 HB7 HT7 HW7 HSL HS HTT
  go_region_held3 (fun wx => wx.cell? ⟨W, 0, none⟩ = some (.int .i64 1) ∧ wx.cell? ⟨W, 1, none⟩ = some (.int .i64 9)) (first | exact x2 | exact x1) (first | (go_at_call 18; refine (HR.out _ HH.out.drew).mono ?_; rintro e wb ⟨rfl, hb1⟩; have x2 := hb1.cells))
  have HZ := Lib.hid hb1
  clear hb1 x1 x2 HR HH
  go_wp2
  go_ret
  exact ⟨rfl, HZ.out.low⟩

theorem walk (tries slot gen : Int) (armed : Bool) (w : World) : Calls Try.prog 5 #[.int .i64 tries, .agg #[.int .i64 slot, .int .i64 gen], .bool armed] w (Holds w) := by
  cases armed with
  | true => exact walk_true tries slot gen w
  | false => exact walk_false tries slot gen w

/-! From the walk to the given row. -/
set_option maxRecDepth 100000 in
theorem lifted (os : Os) (started : os.Started) (H : Type) (enc : TypeId × Value → H) :
    ReturnsInHanded {} Try.checked os 5 .any (Rows.clientStopsSpec.pre6 enc Try.prog Try.f5 Rows.clientStopsRow.domain false) (Rows.clientStopsSpec.post enc Try.prog Try.f5 false true false false) := by
  refine returnsInHanded_of_change (C := Try.checked) t_own started (by kernel_rfl) Try.func5
    (ChangeSpec.witness6 (enc := enc) (C := Try.checked) false ⟨#[], #[.int .i64 0, .agg #[.int .i64 0, .int .i64 0], .bool false], []⟩ 8 (by kernel_rfl) (by kernel_rfl) (by kernel_rfl) (by kernel_rfl)) ?_
  intro W base args ds gs before hval0 hW hcnd _
  have hval : ∀ (j : Nat) t v, Try.f5.params[j]? = some t → args[j]? = some v → Value.okWide Try.prog W .any base t v := hval0
  have hW' := hW
  obtain ⟨p, q, hA0, hV, rfl, hfz, hnd⟩ := hW
  have hA : DataW.TrodAll enc Try.prog W 0 (fun _ => true) true Try.f5.params.toList args.toList ds p := hA0
  rw [Try.params5] at hA hval
  obtain ⟨v0, vs0, d0, ds0, p0, q0, hargs, rfl, rfl, h0, r0⟩ := trodAll_cons hA
  obtain ⟨v1, vs1, d1, ds1, p1, q1, rfl, rfl, rfl, h1, r1⟩ := trodAll_cons r0
  obtain ⟨v2, vs2, d2, ds2, p2, q2, rfl, rfl, rfl, h2, r2⟩ := trodAll_cons r1
  obtain ⟨rfl, rfl, rfl⟩ := trodAll_nil r2
  obtain rfl : args = #[v0, v1, v2] := by cases args; simp_all
  obtain ⟨tries, rfl, _⟩ := open_int (hval 0 3 v0 rfl rfl) h0
  obtain ⟨slot, gen, rfl, _, _⟩ := open_cell (hval 1 33 v1 rfl rfl) h1
  obtain ⟨armed, rfl⟩ := open_bool (hval 2 4 v2 rfl rfl)
  refine (walk tries slot gen armed W).mono fun e W' ⟨he, hb⟩ => ?_
  subst he
  exact ⟨_, rfl, post_of_holds hW' (by kernel_rfl) rfl (by rw [Try.params5]; exact fun t ht => params_ok t (by simp at ht; rcases ht with rfl | rfl | rfl <;> simp)) ⟨rfl, rfl, rfl⟩ hb⟩

/-- The given statement. -/
theorem proved : Rows.ClientStopsSaid :=
  OpenClaim.holds_of_wide 5 Try.f5 rfl rfl rfl rfl rfl rfl rfl ⟨rfl, rfl, rfl, rfl, rfl⟩ rfl rfl rfl rfl rfl (by kernel_rfl) Try.func5 (by kernel_rfl)
    (of_decide_eq_true (by kernel_rfl)) (by unfold Func.isWrapper; first | (rw [if_pos (by decide +kernel)]; kernel_rfl) | (rw [if_neg (by decide +kernel)]; exact ⟨rfl, rfl⟩))
    (fun os started H enc _ => lifted os started H enc)
#print axioms proved
end Go.Proofs.Ytjalmfomeehpgaa.clientStops
