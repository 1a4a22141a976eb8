/-
  ClientTries: the walk, of slot 0.
-/
import Derived.Test.YtjalmfomeehpgaaTryA
import Derived.Deep.RegionHeld3
namespace Go.Proofs.Ytjalmfomeehpgaa.clientTries
open Go.Proofs.Ytjalmfomeehpgaa
open Go.RowKit
set_option linter.unusedVariables false

theorem bd1 {xs : List Int} (h : xs.length ≤ 50) : Bd 1 ⟨0, 0, xs, 0⟩ (F 0) := ⟨fun h => (by cases h), fun h => (by cases h), by simp [F], by simp, by simp; omega⟩
set_option maxRecDepth 100000 in
set_option maxHeartbeats 4000000 in
theorem in_0 (A : Option Addr) (c : Nat) (xs : List Int) (tries slot gen : Int) (w : World) (hx : IntsI w (.slice A xs.length c) xs) (hs : slot = 0) (h : xs.length ≤ 50) (hI : inRange gen slot) : Calls Try.prog 4 #[.slice A xs.length c, .int .i64 tries, .agg #[.int .i64 slot, .int .i64 gen]] w (Holds w) := by
  have n1 : decide (50 < (xs.length : Int)) = false := by simp; omega
  have n2 : decide (50 < xs.length) = false := by simp; omega
  have f3 : decide (gen < 1) = false := by unfold inRange at hI; simp; omega
  have f4 : decide (1048576 < gen) = false := by unfold inRange at hI; simp; omega
  subst hs
  have q33 := eq34
  have HI := Lib.hid hx
  have HIR := Lib.hid hI
  have HLO := Lib.hid h
  clear hx hI h
  go_enter Try.func4, Try.ntmps4
  go_upto_region 1 with (fail)
  obtain ⟨T, hT⟩ : ∃ X, X = w.heap.size := ⟨_, rfl⟩
  rw [← hT]
  refine name_w (fun W => Cel W T 0 gen ∧ Below w.heap.size w W) ?_ ?_
  · rw [hT]
    exact ⟨Cel.new _ _ _, below_alloc _ _⟩
  clear hT
  rintro w0 ⟨h1, h2⟩
  have HT0 := Lib.hid h1
  have HB0 := Lib.hid h2
  clear h1 h2
  go_wp2_with fail
  refine (new_any _).mono ?_
  rintro e w1 ⟨g, rfl, hg, hz, hb⟩
  have HB1 := Lib.hid (HB0.out.trans (hb.mono HB0.out.size))
  have HZ1 : Hid (Fz w1 g 57 (F 0)) := Lib.hid hz
  have HT1 := Lib.hid (HT0.out.below hb)
  have HG : Hid (w.heap.size ≤ g) := Lib.hid (by have := HB0.out.size; omega)
  clear hz hb hg HB0 HT0
  go_wp2_with fail
  refine (awake_any _).mono ?_
  rintro e w2 ⟨rfl, hb⟩
  have HB2 := Lib.hid (HB1.out.trans (hb.mono HB1.out.size))
  have HZ2 := Lib.hid (HZ1.out.under hb HZ1.out.lt)
  have HT2 := Lib.hid (HT1.out.below hb)
  clear hb HB1 HZ1 HT1
  have k0 := HT2.out.c0
  have k1 := HT2.out.c1
  go_wp2_with fail
  refine (pk_new w.heap.size g _ w2 HZ2.out HG.out).mono ?_
  rintro e w3 ⟨b, rfl, hp, hb⟩
  have HP3 := Lib.hid hp
  have HB3 := Lib.hid (HB2.out.trans (hb.mono HB2.out.size))
  have HT3 := Lib.hid (HT2.out.below hb)

  clear hp hb HB2 HZ2 HT2 HG k0 k1 f3 f4 n1 n2
  obtain ⟨A1, m1, c1, W1, ea, hi1, hb1⟩ := copy_ints (HI.out.under HB3.out (Nat.le_refl _)) (by have := HLO.out; omega)
  have E1 := Lib.hid ea
  have HI1 := Lib.hid hi1
  have HB1 := Lib.hid (HB3.out.trans (hb1.mono HB3.out.size))
  have HP1 := Lib.hid (HP3.out.under hb1)
  have HT1 := Lib.hid (HT3.out.below hb1)

  have bs0 := build0
  clear ea hi1 hb1 HB3 HP3 HT3
  go_wp2_with (first | (at_builtin; refine wpList_append_is rfl (.tmp 51) (.tmp 52) 34 rfl rfl rfl E1.out ?_))
  refine (pk_script w.heap.size b g _ _ _ xs W1 HP1.out HI1.out (by have := HLO.out; simp; omega)).mono ?_
  rintro e w4 ⟨rfl, hp, ht⟩
  have HP4 : Hid (Pk w4 w.heap.size b g ⟨0, 0, xs, 0⟩ (F 0)) := Lib.hid hp
  have HB4 := Lib.hid (ht.below HB1.out)
  have HT4 := Lib.hid (HT1.out.turn ht)

  clear hp ht HP1 HB1 HT1 HI1 E1 bs0
  obtain ⟨M, hM⟩ : ∃ x, x = triesC tries := ⟨_, rfl⟩
  have HM8 : Hid (1 ≤ M ∧ M ≤ 8) := Lib.hid (by rw [hM]; exact triesC_in tries)
  have HTR : Hid (∀ V, Calls Try.prog 21 #[.int .i64 tries] V fun e w' => e = .returned (.int .i64 M) ∧ V = w') := Lib.hid (fun V => by rw [hM]; exact tries_any tries V)
  have HMT : Hid (M = triesC tries) := Lib.hid hM
  clear hM
  go_wp2
  go_loopg [9, 10] xs.length (fun gg kv sv wr => ∃ k : Nat, Hid (gg = xs.length - k) ∧ k ≤ xs.length ∧ kv = .int .i64 (k : Int) ∧ sv = .bool (setK M xs k) ∧ Hid (∀ i, i < k → xs.getD i 0 = 1 ∨ xs.getD i 0 = 2) ∧ wr = w4)
  case atStart => exact ⟨0, Lib.hid rfl, Nat.zero_le _, rfl, rfl, Lib.hid (fun i hi => absurd hi (Nat.not_lt_zero i)), rfl⟩
  case round =>
    obtain ⟨k, HGG, hk, rfl, rfl, HBD, rfl⟩ := hrel
    by_cases hlt : k < xs.length
    case neg =>
      have el : decide ((k : Int) < (xs.length : Int)) = false := by simpa using hlt
      have en : decide (k < xs.length) = false := decide_eq_false hlt
      have HGD : Hid (xs.getD k 0 ≠ 1 ∧ xs.getD k 0 ≠ 2) := Lib.hid (by rw [show xs.getD k 0 = 0 from by simp [List.getD_eq_getElem?_getD, List.getElem?_eq_none (show xs.length ≤ k by omega)]]; omega)
      have hk50 : k ≤ 50 := by have := HLO.out; omega
      clear hlt
      have HT6x := HT4
      by_cases hkm : (k : Int) < M
      case pos =>
        obtain ⟨hj, hl, q0, q1, q2⟩ := tries_lt HIR.out HBD.out HGD.out.1 HGD.out.2 hkm
        obtain ⟨sx, hsx⟩ : ∃ x, x = (st gen 0 ⟨0, 0, xs, 0⟩ (F 0) (k + 1)).1 := ⟨_, rfl⟩
        obtain ⟨fx, hfx⟩ : ∃ x, x = (st gen 0 ⟨0, 0, xs, 0⟩ (F 0) (k + 1)).2 := ⟨_, rfl⟩
        have HST : Hid (st gen 0 ⟨0, 0, xs, 0⟩ (F 0) (k + 1) = (sx, fx)) := Lib.hid (by rw [hsx, hfx])
        have HSL : Hid (sx.slot = 0 ∧ sx.gen = gen ∧ sx.writes = 1) := Lib.hid (by rw [hsx]; exact ⟨q0, q1, q2⟩)
        rw [HMT.out] at hj
        have HJ := Lib.hid hj
        have HL := Lib.hid hl
        have k0 := HT4.out.c0
        have k1 := HT4.out.c1
        have g1 : decide ((k : Int) < M) = true := decide_eq_true hkm
        have ew : IntKind.i64.wrap ((k : Int) + 1) = (k : Int) + 1 := IntWalk.i64_in _ (by omega)
        clear hj hl q0 q1 q2 hsx hfx hkm
        go_wp2_with fail
        refine (pk_set_at w.heap.size b g 1 ⟨0, 0, xs, 0⟩ sx (F 0) fx gen 0 tries 0 (k + 1) wr HP4.out (bd1 HLO.out) (by omega) HJ.out HL.out HST.out).mono ?_
        rintro e w6 ⟨rfl, hp, ht⟩
        have HH : Hid (Has w w6 b g sx fx T 0 gen) := Lib.hid ⟨hp, ht.below HB4.out, HT4.out.turn ht⟩
        have en : ((k + 1 : Nat) : Int) = (k : Int) + 1 := by push_cast; rfl
        rw [en]
        clear hp ht en k0 k1 HP4 HB4 HT4 HT6x HJ HL HST
        go_wp2_with (first | (go_at_call 21; refine (HTR.out _).mono ?_; rintro e w' ⟨rfl, rfl⟩))
        have HR1 : Hid (∀ V, Has w V b g sx fx T 0 gen → Calls Try.prog 18 #[.pointer (some ⟨b, 0, none⟩)] V fun e w' => e = .returned (.agg #[.int .i64 0, .int .i64 gen]) ∧ Has w w' b g sx fx T 0 gen) := Lib.hid (fun V h => by
          have h5 := has_cell h
          rw [HSL.out.1, HSL.out.2.1] at h5
          exact h5)
        have HR2 : Hid (∀ V, Has w V b g sx fx T 0 gen → Calls Try.prog 19 #[.pointer (some ⟨b, 0, none⟩)] V fun e w' => e = .returned (.int .i64 1) ∧ V = w') := Lib.hid (fun V h => by
          have h5 := pk_writes w.heap.size b g sx fx V h.pk
          rw [HSL.out.2.2] at h5
          exact h5)
        have x1 := HH.out.cells
        clear g1 HSL
        go_region_held3 (fun wx => wx.cell? ⟨T, 0, none⟩ = some (.int .i64 0) ∧ wx.cell? ⟨T, 1, none⟩ = some (.int .i64 gen)) (first | exact x2 | exact x1) (first | (go_at_call 18; refine (HR1.out _ HH.out.drew).mono ?_; rintro e wb ⟨rfl, hb1⟩; have x2 := hb1.cells) | (go_at_call 19; refine (HR2.out _ hb1).mono ?_; rintro e w' ⟨rfl, rfl⟩))
        have HZ := Lib.hid hb1
        clear hb1 x1 x2 HR1 HR2 HH
        go_wp2
        go_ret
        exact ⟨rfl, HZ.out.low⟩
      obtain ⟨n, hn⟩ : ∃ n : Nat, M = n := ⟨M.toNat, by have := HM8.out; omega⟩
      obtain ⟨hj, hl, q0⟩ := tries_ge (n := n) HIR.out HBD.out hn (by have := HM8.out; omega) (by omega)
      obtain ⟨sx, hsx⟩ : ∃ x, x = (st gen 0 ⟨0, 0, xs, 0⟩ (F 0) n).1 := ⟨_, rfl⟩
      obtain ⟨fx, hfx⟩ : ∃ x, x = (st gen 0 ⟨0, 0, xs, 0⟩ (F 0) n).2 := ⟨_, rfl⟩
      have HST : Hid (st gen 0 ⟨0, 0, xs, 0⟩ (F 0) n = (sx, fx)) := Lib.hid (by rw [hsx, hfx])
      have HSX : Hid (sx = ro gen 0 xs n) := Lib.hid (by rw [hsx]; exact q0)
      obtain ⟨d, hd⟩ : ∃ d : Nat, k = n + d := ⟨k - n, by omega⟩
      have hsk := set_past (xs := xs) hn d
      rw [← hd] at hsk
      rw [hsk]
      rw [HMT.out] at hj
      have HJ := Lib.hid hj
      have HL := Lib.hid hl
      have HNM : Hid ((n : Int) = M) := Lib.hid hn.symm
      have k0 := HT4.out.c0
      have k1 := HT4.out.c1
      have g1 : decide ((k : Int) < M) = false := decide_eq_false hkm
      clear hj hl q0 hsx hfx hkm hn hd hsk
      obtain ⟨lo, hlo⟩ : ∃ x, x = lostK xs n := ⟨_, rfl⟩
      rw [← hlo]
      have HLS := Lib.hid hlo
      clear hlo
      go_wp2_with fail
      refine (pk_set_at w.heap.size b g 1 ⟨0, 0, xs, 0⟩ sx (F 0) fx gen 0 tries 10 n wr HP4.out (bd1 HLO.out) (by omega) HJ.out HL.out HST.out).mono ?_
      rintro e w6 ⟨rfl, hp, ht⟩
      have HH : Hid (Has w w6 b g sx fx T 0 gen) := Lib.hid ⟨hp, ht.below HB4.out, HT4.out.turn ht⟩
      rw [HNM.out]
      clear hp ht k0 k1 HP4 HB4 HT4 HT6x HJ HL HST
      go_wp2_with (first | (go_at_call 21; refine (HTR.out _).mono ?_; rintro e w' ⟨rfl, rfl⟩))
      clear g1
      cases lo with
      | true =>
        have HSL : Hid (sx.slot = 0 ∧ sx.gen = gen) := Lib.hid (by rw [HSX.out]; unfold ro; rw [if_pos HLS.out.symm]; exact ⟨rfl, rfl⟩)
        have HR1 : Hid (∀ V, Has w V b g sx fx T 0 gen → Calls Try.prog 18 #[.pointer (some ⟨b, 0, none⟩)] V fun e w' => e = .returned (.agg #[.int .i64 0, .int .i64 gen]) ∧ Has w w' b g sx fx T 0 gen) := Lib.hid (fun V h => by
          have h5 := has_cell h
          rw [HSL.out.1, HSL.out.2] at h5
          exact h5)
        have x1 := HH.out.cells
        clear HSL HSX HLS
        go_region_held3 (fun wx => wx.cell? ⟨T, 0, none⟩ = some (.int .i64 0) ∧ wx.cell? ⟨T, 1, none⟩ = some (.int .i64 gen)) (first | exact x2 | exact x1) (first | (go_at_call 21; refine (HTR.out _).mono ?_; rintro e w' ⟨rfl, rfl⟩) | (go_at_call 18; refine (HR1.out _ HH.out.drew).mono ?_; rintro e wb ⟨rfl, hb1⟩; have x2 := hb1.cells))
        have HZ := Lib.hid hb1
        clear hb1 x1 x2 HR1 HH
        go_wp2
        go_ret
        exact ⟨rfl, HZ.out.low⟩
      | false =>
        have HSL : Hid (sx.slot = 0 ∧ sx.gen = 0) := Lib.hid (by rw [HSX.out]; unfold ro; rw [if_neg (by rw [← HLS.out]; decide)]; exact ⟨rfl, rfl⟩)
        have HR1 : Hid (∀ V, Has w V b g sx fx T 0 gen → Calls Try.prog 18 #[.pointer (some ⟨b, 0, none⟩)] V fun e w' => e = .returned (.agg #[.int .i64 0, .int .i64 0]) ∧ Has w w' b g sx fx T 0 gen) := Lib.hid (fun V h => by
          have h5 := has_cell h
          rw [HSL.out.1, HSL.out.2] at h5
          exact h5)
        have x1 := HH.out.cells
        have z1 : ((0 : Int) == gen) = false := by have := HIR.out; unfold inRange at this; simp; omega
        have z2 : ¬ (0 : Int) = gen := by simpa using z1
        have z3 : decide ((0 : Int) = gen) = false := decide_eq_false z2
        clear HSL HSX HLS z2
        go_region_held3 (fun wx => wx.cell? ⟨T, 0, none⟩ = some (.int .i64 0) ∧ wx.cell? ⟨T, 1, none⟩ = some (.int .i64 gen)) (first | exact x2 | exact x1) (first | (go_at_call 21; refine (HTR.out _).mono ?_; rintro e w' ⟨rfl, rfl⟩) | (go_at_call 18; refine (HR1.out _ HH.out.drew).mono ?_; rintro e wb ⟨rfl, hb1⟩; have x2 := hb1.cells))
        have HZ := Lib.hid hb1
        clear hb1 x1 x2 HR1 HH
        go_wp2
        go_ret
        exact ⟨rfl, HZ.out.low⟩
    have el : decide ((k : Int) < (xs.length : Int)) = true := by simpa using hlt
    have en : decide (k < xs.length) = true := decide_eq_true hlt
    obtain ⟨B, o, hA, hlc, hcell⟩ := kthI HI.out HB4.out hlt
    subst hA
    obtain ⟨x, hx⟩ : ∃ x, x = xs.getD k 0 := ⟨_, rfl⟩
    rw [← hx] at hcell
    have HXK := Lib.hid hx
    have HLT := Lib.hid hlt
    have hk50 : k ≤ 50 := by have := HLO.out; omega
    clear hx hlt
    by_cases h1 : x = 1
    case pos =>
      subst h1
      have HSK : Hid (setK M xs (k + 1) = (setK M xs k || decide ((k : Int) < M))) := Lib.hid (by
        show (setK M xs k || ((xs.getD k 0 == 1) && decide ((k : Int) < M))) = _
        rw [← HXK.out]; rfl)
      obtain ⟨sk, hsk⟩ : ∃ x, x = setK M xs k := ⟨_, rfl⟩
      rw [← hsk]
      have HS := Lib.hid hsk
      clear hsk
      cases sk with
      | true =>
        go_wp2_with (first | (go_at_call 21; refine (HTR.out _).mono ?_; rintro e w' ⟨rfl, rfl⟩))
        go_roundg (xs.length - (k + 1))
        case measure => have := HGG.out; have := HLT.out; omega
        case rel => exact ⟨k + 1, Lib.hid rfl, HLT.out, by go_num, by rw [HSK.out, ← HS.out]; rfl, Lib.hid (fun i hi => by
          rcases Nat.lt_succ_iff_lt_or_eq.1 hi with h | h
          · exact HBD.out i h
          · rw [h]; exact .inl HXK.out.symm), rfl⟩
      | false =>
        obtain ⟨dm, hdm⟩ : ∃ x, x = decide ((k : Int) < M) := ⟨_, rfl⟩
        have HDM := Lib.hid hdm
        have g1 : decide ((k : Int) < M) = dm := hdm.symm
        clear hdm
        go_wp2_with (first | (go_at_call 21; refine (HTR.out _).mono ?_; rintro e w' ⟨rfl, rfl⟩))
        go_roundg (xs.length - (k + 1))
        case measure => have := HGG.out; have := HLT.out; omega
        case rel => exact ⟨k + 1, Lib.hid rfl, HLT.out, by go_num, by rw [HSK.out, ← HS.out, ← HDM.out]; cases dm <;> rfl, Lib.hid (fun i hi => by
          rcases Nat.lt_succ_iff_lt_or_eq.1 hi with h | h
          · exact HBD.out i h
          · rw [h]; exact .inl HXK.out.symm), rfl⟩
    have e1 : (x == 1) = false := by simpa using h1
    by_cases h2 : x = 2
    case pos =>
      subst h2
      have HSK : Hid (setK M xs (k + 1) = setK M xs k) := Lib.hid (by
        show (setK M xs k || ((xs.getD k 0 == 1) && decide ((k : Int) < M))) = _
        rw [← HXK.out]; simp)
      clear h1 e1
      obtain ⟨sk, hsk⟩ : ∃ x, x = setK M xs k := ⟨_, rfl⟩
      rw [← hsk]
      have HS := Lib.hid hsk
      clear hsk
      cases sk with
      | true =>
        go_wp2_with (first | (go_at_call 21; refine (HTR.out _).mono ?_; rintro e w' ⟨rfl, rfl⟩))
        go_roundg (xs.length - (k + 1))
        case measure => have := HGG.out; have := HLT.out; omega
        case rel => exact ⟨k + 1, Lib.hid rfl, HLT.out, by go_num, by rw [HSK.out, ← HS.out], Lib.hid (fun i hi => by
          rcases Nat.lt_succ_iff_lt_or_eq.1 hi with h | h
          · exact HBD.out i h
          · rw [h]; exact .inr HXK.out.symm), rfl⟩
      | false =>
        go_wp2_with (first | (go_at_call 21; refine (HTR.out _).mono ?_; rintro e w' ⟨rfl, rfl⟩))
        go_roundg (xs.length - (k + 1))
        case measure => have := HGG.out; have := HLT.out; omega
        case rel => exact ⟨k + 1, Lib.hid rfl, HLT.out, by go_num, by rw [HSK.out, ← HS.out], Lib.hid (fun i hi => by
          rcases Nat.lt_succ_iff_lt_or_eq.1 hi with h | h
          · exact HBD.out i h
          · rw [h]; exact .inr HXK.out.symm), rfl⟩
    have e2 : (x == 2) = false := by simpa using h2
    have HGD : Hid (xs.getD k 0 ≠ 1 ∧ xs.getD k 0 ≠ 2) := Lib.hid (by rw [← HXK.out]; exact ⟨h1, h2⟩)
    clear h1 h2
    have HT6x := HT4
    by_cases hkm : (k : Int) < M
    case pos =>
      obtain ⟨hj, hl, q0, q1, q2⟩ := tries_lt HIR.out HBD.out HGD.out.1 HGD.out.2 hkm
      obtain ⟨sx, hsx⟩ : ∃ x, x = (st gen 0 ⟨0, 0, xs, 0⟩ (F 0) (k + 1)).1 := ⟨_, rfl⟩
      obtain ⟨fx, hfx⟩ : ∃ x, x = (st gen 0 ⟨0, 0, xs, 0⟩ (F 0) (k + 1)).2 := ⟨_, rfl⟩
      have HST : Hid (st gen 0 ⟨0, 0, xs, 0⟩ (F 0) (k + 1) = (sx, fx)) := Lib.hid (by rw [hsx, hfx])
      have HSL : Hid (sx.slot = 0 ∧ sx.gen = gen ∧ sx.writes = 1) := Lib.hid (by rw [hsx]; exact ⟨q0, q1, q2⟩)
      rw [HMT.out] at hj
      have HJ := Lib.hid hj
      have HL := Lib.hid hl
      have k0 := HT4.out.c0
      have k1 := HT4.out.c1
      have g1 : decide ((k : Int) < M) = true := decide_eq_true hkm
      have ew : IntKind.i64.wrap ((k : Int) + 1) = (k : Int) + 1 := IntWalk.i64_in _ (by omega)
      clear hj hl q0 q1 q2 hsx hfx hkm
      go_wp2_with fail
      refine (pk_set_at w.heap.size b g 1 ⟨0, 0, xs, 0⟩ sx (F 0) fx gen 0 tries 0 (k + 1) wr HP4.out (bd1 HLO.out) (by omega) HJ.out HL.out HST.out).mono ?_
      rintro e w6 ⟨rfl, hp, ht⟩
      have HH : Hid (Has w w6 b g sx fx T 0 gen) := Lib.hid ⟨hp, ht.below HB4.out, HT4.out.turn ht⟩
      have en : ((k + 1 : Nat) : Int) = (k : Int) + 1 := by push_cast; rfl
      rw [en]
      clear hp ht en k0 k1 HP4 HB4 HT4 HT6x HJ HL HST
      go_wp2_with (first | (go_at_call 21; refine (HTR.out _).mono ?_; rintro e w' ⟨rfl, rfl⟩))
      have HR1 : Hid (∀ V, Has w V b g sx fx T 0 gen → Calls Try.prog 18 #[.pointer (some ⟨b, 0, none⟩)] V fun e w' => e = .returned (.agg #[.int .i64 0, .int .i64 gen]) ∧ Has w w' b g sx fx T 0 gen) := Lib.hid (fun V h => by
        have h5 := has_cell h
        rw [HSL.out.1, HSL.out.2.1] at h5
        exact h5)
      have HR2 : Hid (∀ V, Has w V b g sx fx T 0 gen → Calls Try.prog 19 #[.pointer (some ⟨b, 0, none⟩)] V fun e w' => e = .returned (.int .i64 1) ∧ V = w') := Lib.hid (fun V h => by
        have h5 := pk_writes w.heap.size b g sx fx V h.pk
        rw [HSL.out.2.2] at h5
        exact h5)
      have x1 := HH.out.cells
      clear g1 HSL
      go_region_held3 (fun wx => wx.cell? ⟨T, 0, none⟩ = some (.int .i64 0) ∧ wx.cell? ⟨T, 1, none⟩ = some (.int .i64 gen)) (first | exact x2 | exact x1) (first | (go_at_call 18; refine (HR1.out _ HH.out.drew).mono ?_; rintro e wb ⟨rfl, hb1⟩; have x2 := hb1.cells) | (go_at_call 19; refine (HR2.out _ hb1).mono ?_; rintro e w' ⟨rfl, rfl⟩))
      have HZ := Lib.hid hb1
      clear hb1 x1 x2 HR1 HR2 HH
      go_wp2
      go_ret
      exact ⟨rfl, HZ.out.low⟩
    obtain ⟨n, hn⟩ : ∃ n : Nat, M = n := ⟨M.toNat, by have := HM8.out; omega⟩
    obtain ⟨hj, hl, q0⟩ := tries_ge (n := n) HIR.out HBD.out hn (by have := HM8.out; omega) (by omega)
    obtain ⟨sx, hsx⟩ : ∃ x, x = (st gen 0 ⟨0, 0, xs, 0⟩ (F 0) n).1 := ⟨_, rfl⟩
    obtain ⟨fx, hfx⟩ : ∃ x, x = (st gen 0 ⟨0, 0, xs, 0⟩ (F 0) n).2 := ⟨_, rfl⟩
    have HST : Hid (st gen 0 ⟨0, 0, xs, 0⟩ (F 0) n = (sx, fx)) := Lib.hid (by rw [hsx, hfx])
    have HSX : Hid (sx = ro gen 0 xs n) := Lib.hid (by rw [hsx]; exact q0)
    obtain ⟨d, hd⟩ : ∃ d : Nat, k = n + d := ⟨k - n, by omega⟩
    have hsk := set_past (xs := xs) hn d
    rw [← hd] at hsk
    rw [hsk]
    rw [HMT.out] at hj
    have HJ := Lib.hid hj
    have HL := Lib.hid hl
    have HNM : Hid ((n : Int) = M) := Lib.hid hn.symm
    have k0 := HT4.out.c0
    have k1 := HT4.out.c1
    have g1 : decide ((k : Int) < M) = false := decide_eq_false hkm
    clear hj hl q0 hsx hfx hkm hn hd hsk
    obtain ⟨lo, hlo⟩ : ∃ x, x = lostK xs n := ⟨_, rfl⟩
    rw [← hlo]
    have HLS := Lib.hid hlo
    clear hlo
    go_wp2_with fail
    refine (pk_set_at w.heap.size b g 1 ⟨0, 0, xs, 0⟩ sx (F 0) fx gen 0 tries 10 n wr HP4.out (bd1 HLO.out) (by omega) HJ.out HL.out HST.out).mono ?_
    rintro e w6 ⟨rfl, hp, ht⟩
    have HH : Hid (Has w w6 b g sx fx T 0 gen) := Lib.hid ⟨hp, ht.below HB4.out, HT4.out.turn ht⟩
    rw [HNM.out]
    clear hp ht k0 k1 HP4 HB4 HT4 HT6x HJ HL HST
    go_wp2_with (first | (go_at_call 21; refine (HTR.out _).mono ?_; rintro e w' ⟨rfl, rfl⟩))
    clear g1
    cases lo with
    | true =>
      have HSL : Hid (sx.slot = 0 ∧ sx.gen = gen) := Lib.hid (by rw [HSX.out]; unfold ro; rw [if_pos HLS.out.symm]; exact ⟨rfl, rfl⟩)
      have HR1 : Hid (∀ V, Has w V b g sx fx T 0 gen → Calls Try.prog 18 #[.pointer (some ⟨b, 0, none⟩)] V fun e w' => e = .returned (.agg #[.int .i64 0, .int .i64 gen]) ∧ Has w w' b g sx fx T 0 gen) := Lib.hid (fun V h => by
        have h5 := has_cell h
        rw [HSL.out.1, HSL.out.2] at h5
        exact h5)
      have x1 := HH.out.cells
      clear HSL HSX HLS
      go_region_held3 (fun wx => wx.cell? ⟨T, 0, none⟩ = some (.int .i64 0) ∧ wx.cell? ⟨T, 1, none⟩ = some (.int .i64 gen)) (first | exact x2 | exact x1) (first | (go_at_call 21; refine (HTR.out _).mono ?_; rintro e w' ⟨rfl, rfl⟩) | (go_at_call 18; refine (HR1.out _ HH.out.drew).mono ?_; rintro e wb ⟨rfl, hb1⟩; have x2 := hb1.cells))
      have HZ := Lib.hid hb1
      clear hb1 x1 x2 HR1 HH
      go_wp2
      go_ret
      exact ⟨rfl, HZ.out.low⟩
    | false =>
      have HSL : Hid (sx.slot = 0 ∧ sx.gen = 0) := Lib.hid (by rw [HSX.out]; unfold ro; rw [if_neg (by rw [← HLS.out]; decide)]; exact ⟨rfl, rfl⟩)
      have HR1 : Hid (∀ V, Has w V b g sx fx T 0 gen → Calls Try.prog 18 #[.pointer (some ⟨b, 0, none⟩)] V fun e w' => e = .returned (.agg #[.int .i64 0, .int .i64 0]) ∧ Has w w' b g sx fx T 0 gen) := Lib.hid (fun V h => by
        have h5 := has_cell h
        rw [HSL.out.1, HSL.out.2] at h5
        exact h5)
      have x1 := HH.out.cells
      have z1 : ((0 : Int) == gen) = false := by have := HIR.out; unfold inRange at this; simp; omega
      have z2 : ¬ (0 : Int) = gen := by simpa using z1
      have z3 : decide ((0 : Int) = gen) = false := decide_eq_false z2
      clear HSL HSX HLS z2
      go_region_held3 (fun wx => wx.cell? ⟨T, 0, none⟩ = some (.int .i64 0) ∧ wx.cell? ⟨T, 1, none⟩ = some (.int .i64 gen)) (first | exact x2 | exact x1) (first | (go_at_call 21; refine (HTR.out _).mono ?_; rintro e w' ⟨rfl, rfl⟩) | (go_at_call 18; refine (HR1.out _ HH.out.drew).mono ?_; rintro e wb ⟨rfl, hb1⟩; have x2 := hb1.cells))
      have HZ := Lib.hid hb1
      clear hb1 x1 x2 HR1 HH
      go_wp2
      go_ret
      exact ⟨rfl, HZ.out.low⟩
end Go.Proofs.Ytjalmfomeehpgaa.clientTries
