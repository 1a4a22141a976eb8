/-
  switchback's RouterFences: the route changes with greater generations alone, to the slot that was called for; each call that tells OK is of the route as it is then. For every input the law returns true, and each argument reads afterwards as it read before. No condition beside the row's own.
-/
import Derived.Test.YtdhonbgladenpaaLawB
namespace Go.Proofs.Ytdhonbgladenpaa.routerFences
open Go.Proofs.Ytdhonbgladenpaa
open Go.ChangeShapes Go.WideShapes Go.ChangeAt Go.RowKit
set_option linter.unusedVariables false

theorem _root_.Go.Proofs.Ytdhonbgladenpaa.ActsI.under {w w' : World} {v : Value} {xs : List Ac} (h : ActsI w v xs) (hb : Below w.heap.size w w') : ActsI w' v xs := by
  rcases h with h | ⟨b, o, c, h1, h2, h3, h4, h5⟩
  · exact .inl h
  · exact .inr ⟨b, o, c, h1, h2, h3, Nat.lt_of_lt_of_le h4 hb.size, fun k hk => (h5 k hk).under hb h4 (Nat.le_refl _)⟩
set_option maxRecDepth 100000 in
set_option maxHeartbeats 4000000 in
theorem walk_out (A : Option Addr) (c : Nat) (xs : List Ac) (w : World) (hx : ActsI w (.slice A xs.length c) xs) (hg : greatB xs = true) : Calls Try.prog 4 #[.slice A xs.length c] w (Holds w) := by
  have HX := Lib.hid hx
  have HGR := Lib.hid hg
  clear hx hg
  go_enter Try.func4, Try.ntmps4
  go_wp2_with fail
  refine (new_any _).mono ?_
  rintro e w1 ⟨g, rfl, hg, hz, hb⟩
  have HB1 := Lib.hid hb
  have HZ1 : Hid (Fz w1 g 53 (F 0)) := Lib.hid hz
  have HG := Lib.hid (Nat.le_of_eq hg)
  clear hz hb hg
  go_wp2_with fail
  refine (awake_any _).mono ?_
  rintro e w2 ⟨rfl, hb⟩
  have HB2 := Lib.hid (HB1.out.trans (hb.mono HB1.out.size))
  have HZ2 := Lib.hid (HZ1.out.under hb HZ1.out.lt)
  clear hb HB1 HZ1
  clear HZ2 HG
  go_wp2_with fail
  refine (great_any _ xs w2 (HX.out.under HB2.out)).mono ?_
  rw [HGR.out]
  rintro e w3 ⟨rfl, hb⟩
  have HB3 := Lib.hid (HB2.out.trans (hb.mono HB2.out.size))
  clear hb HB2
  go_wp2_with fail
  refine (awake_any _).mono ?_
  rintro e w4 ⟨rfl, hb⟩
  have HB4 := Lib.hid (HB3.out.trans (hb.mono HB3.out.size))
  clear hb HB3
  go_wp2
  go_ret
  exact ⟨rfl, HB4.out⟩

set_option maxRecDepth 100000 in
set_option maxHeartbeats 4000000 in
theorem walk_in (A : Option Addr) (c : Nat) (xs : List Ac) (w : World) (hx : ActsI w (.slice A xs.length c) xs) (h : xs.length ≤ 200) (hbig : bigB xs = false) (hg : greatB xs = false) : Calls Try.prog 4 #[.slice A xs.length c] w (Holds w) := by
  have HX := Lib.hid hx
  have HGR := Lib.hid hg
  have HBG := Lib.hid hbig
  have q34 := eq34
  clear hx hg hbig
  go_enter Try.func4, Try.ntmps4
  go_wp2_with fail
  refine (new_any _).mono ?_
  rintro e w1 ⟨g, rfl, hg, hz, hb⟩
  have HB1 := Lib.hid hb
  have HZ1 : Hid (Fz w1 g 53 (F 0)) := Lib.hid hz
  have HG := Lib.hid (Nat.le_of_eq hg)
  clear hz hb hg
  go_wp2_with fail
  refine (awake_any _).mono ?_
  rintro e w2 ⟨rfl, hb⟩
  have HB2 := Lib.hid (HB1.out.trans (hb.mono HB1.out.size))
  have HZ2 := Lib.hid (HZ1.out.under hb HZ1.out.lt)
  clear hb HB1 HZ1
  go_wp2_with fail
  refine (great_any _ xs w2 (HX.out.under HB2.out)).mono ?_
  rw [HGR.out]
  rintro e w3 ⟨rfl, hb⟩
  have HB3 := Lib.hid (HB2.out.trans (hb.mono HB2.out.size))
  have HZ3 := Lib.hid (HZ2.out.under hb HZ2.out.lt)
  clear hb HB2 HZ2
  go_wp2_with fail
  refine (pk_new w.heap.size g _ w3 HZ3.out HG.out).mono ?_
  rintro e w4 ⟨b, rfl, hp, hb⟩
  have HP4 := Lib.hid hp
  have HB4 := Lib.hid (HB3.out.trans (hb.mono HB3.out.size))
  clear hp hb HB3 HZ3 HG
  go_wp2
  go_loopg [29] xs.length (fun gg iv wr => ∃ (k : Nat) (sl gn wn : Int) (os : List Int) (f : Fu), Hid (gg = xs.length - k) ∧ k ≤ xs.length ∧ iv = .int .i64 (k : Int) ∧ Hid (sl = 0 ∨ sl = 1) ∧ Hid (Bd k ⟨sl, gn, os, wn⟩ f) ∧ Hid (Pk wr w.heap.size b g ⟨sl, gn, os, wn⟩ f) ∧ Hid (Below w.heap.size w wr))
  case atStart => exact ⟨0, 0, 0, 0, [], F 0, Lib.hid rfl, Nat.zero_le _, rfl, Lib.hid (.inl rfl), Lib.hid bd0, HP4, HB4⟩
  case round =>
    obtain ⟨k, sl, gn, wn, os, f, HG, hk, rfl, HSL, HBD, HP20, HB20⟩ := hrel
    clear HP4 HB4
    have hk9 : k ≤ 200 := by omega
    by_cases hlt : k < xs.length
    case neg =>
      have el : decide ((k : Int) < (xs.length : Int)) = false := by simpa using hlt
      have en : decide (k < xs.length) = false := decide_eq_false hlt
      go_wp2
      go_ret
      exact ⟨rfl, HB20.out⟩
    obtain ⟨b2, off, v, rfl, x0, x1, x2, x3, hi, hf⟩ := HX.out.kth2 HB20.out hlt
    have hlo := bigB_is HBG.out k hlt
    obtain ⟨⟨kd, pg, ps, po⟩, hA⟩ : ∃ A, A = xs[k] := ⟨_, rfl⟩
    rw [← hA] at x0 x1 x2 hi hf hlo
    simp only at x0 x1 x2 hi hf hlo
    obtain ⟨A', c', rfl⟩ := hi.shape
    have HI := Lib.hid hi
    have HLO := Lib.hid hlo
    have HLT := Lib.hid hlt
    have el : decide ((k : Int) < (xs.length : Int)) = true := by simpa using hlt
    have en : decide (k < xs.length) = true := decide_eq_true hlt
    clear hA hlt hi hf hlo
    go_upto_region 10 with (fail)
    obtain ⟨Ab, hAb⟩ : ∃ X, X = wr.heap.size := ⟨_, rfl⟩
    rw [← hAb]
    refine name_w (fun W => Pk W w.heap.size b g ⟨sl, gn, os, wn⟩ f ∧ ActB W Ab kd pg ps (.slice A' po.length c') ∧ Below w.heap.size w W) ?_ ?_
    · have bb := below_alloc wr (.cells #[.int .i64 kd, .int .i64 pg, .int .i64 ps, (.slice A' po.length c')] 39)
      rw [hAb]
      exact ⟨HP20.out.under bb, ActB.new _ _ _ _ _, HB20.out.trans (bb.mono HB20.out.size)⟩
    clear x0 x1 x2 x3
    have LEA : Hid (w.heap.size ≤ Ab) := Lib.hid (by rw [hAb]; exact HB20.out.size)
    clear hAb HP20 HB20
    rintro v21 ⟨h0, h1, h2⟩
    have HP21 := Lib.hid h0
    have HCA21 := Lib.hid h1
    have HB21 := Lib.hid h2
    clear h0 h1 h2
    clear el en
    go_wp2_with fail
    refine (pk_cell w.heap.size b g _ _ v21 HP21.out).mono ?_
    rintro e v22 ⟨rfl, hb⟩
    have HP22 := Lib.hid (HP21.out.under hb)
    have HB22 := Lib.hid (HB21.out.trans (hb.mono HB21.out.size))
    have HCA22 := Lib.hid (HCA21.out.below hb)
    clear hb HP21 HB21 HCA21
    go_upto_region 11 with (fail)
    obtain ⟨Wb, hWb⟩ : ∃ X, X = v22.heap.size := ⟨_, rfl⟩
    rw [← hWb]
    refine name_w (fun W => Pk W w.heap.size b g ⟨sl, gn, os, wn⟩ f ∧ ActB W Ab kd pg ps (.slice A' po.length c') ∧ Cel W Wb sl gn ∧ Below w.heap.size w W) ?_ ?_
    · have bb := below_alloc v22 (.cells #[.int .i64 sl, .int .i64 gn] 34)
      rw [hWb]
      exact ⟨HP22.out.under bb, HCA22.out.below bb, Cel.new _ _ _, HB22.out.trans (bb.mono HB22.out.size)⟩
    have LEW : Hid (w.heap.size ≤ Wb) := Lib.hid (by rw [hWb]; exact HB22.out.size)
    have NEAW : Hid (Ab ≠ Wb) := Lib.hid (by rw [hWb]; exact Nat.ne_of_lt HCA22.out.lt)
    have NEWA : Hid (Wb ≠ Ab) := Lib.hid (Ne.symm NEAW.out)
    clear hWb HP22 HB22 HCA22
    rintro v23 ⟨h0, h1, h2, h3⟩
    have HP23 := Lib.hid h0
    have HCA23 := Lib.hid h1
    have HCW23 := Lib.hid h2
    have HB23 := Lib.hid h3
    clear h0 h1 h2 h3
    by_cases hkd : kd = 2
    case pos =>
      subst hkd
      have kA0 := HCA23.out.c0
      obtain ⟨A1, n1, c1, W1, ea, hi1, hb1⟩ := copy_ints (HI.out.under HB23.out (Nat.le_refl _)) (by have := HLO.out; omega)
      have E1 := Lib.hid ea
      have HI1 := Lib.hid hi1
      have kA3 : (v23.alloc (.cells #[] 3)).cell? ⟨Ab, 3, none⟩ = some (.slice A' po.length c') := ((below_alloc v23 (.cells #[] 3)).cell (p := ⟨Ab, 3, none⟩) HCA23.out.lt).trans HCA23.out.c3
      have HP30 := Lib.hid (HP23.out.under hb1)
      have HB30 := Lib.hid (HB23.out.trans (hb1.mono HB23.out.size))
      have bs0 := build0
      clear ea hi1 hb1 HP23 HB23 HCA23 HCW23
      go_wp2_with (first | (at_builtin; refine wpList_append_is rfl (.tmp 39) (.tmp 41) 35 rfl rfl rfl E1.out ?_))
      refine (pk_script w.heap.size b g _ _ _ po W1 HP30.out HI1.out (by have := HLO.out; have := HBD.out.outs; simp only at this ⊢; omega)).mono ?_
      rintro e v31 ⟨rfl, hp, ht⟩
      have HP31 : Hid (Pk v31 w.heap.size b g ⟨sl, gn, os ++ po, wn⟩ f) := Lib.hid hp
      have HB31 := Lib.hid (ht.below HB30.out)
      clear kA0 kA3
      clear hp ht HP30 HB30
      go_wp2
      go_roundg (xs.length - (k + 1))
      case measure => have := HG.out; have := HLT.out; omega
      case rel => exact ⟨k + 1, sl, gn, wn, os ++ po, f, Lib.hid rfl, HLT.out, by go_num, HSL, Lib.hid (HBD.out.script po HLO.out), HP31, HB31⟩
    have ek : (kd == 2) = false := by simpa using hkd
    have HFC := Lib.hid (fence_cases ⟨sl, gn, os, wn⟩ f pg ps)
    have HBD1 := Lib.hid (HBD.out.call pg ps)
    clear hkd HI HLO
    have kA0 := HCA23.out.c0
    have kA1 := HCA23.out.c1
    have kA2 := HCA23.out.c2
    go_wp2_with fail
    refine (pk_call w.heap.size b g ⟨sl, gn, os, wn⟩ f pg ps v23 HP23.out (HBD.out.fine (by omega)) (HBD.out.wr (by omega))).mono ?_
    rintro e v24 ⟨rfl, hp, ht⟩
    have HP24 : Hid (Pk v24 w.heap.size b g (leftC ⟨sl, gn, os, wn⟩ f pg ps) (fuseC f pg ps)) := Lib.hid hp
    have HB24 := Lib.hid (ht.below HB23.out)
    have HCA24 := Lib.hid (HCA23.out.turn ht)
    have HCW24 := Lib.hid (HCW23.out.turn ht)
    clear kA0 kA1 kA2
    clear hp ht HP23 HB23 HCA23 HCW23
    obtain ⟨tv, htv⟩ : ∃ x, x = toldC ⟨sl, gn, os, wn⟩ f pg ps := ⟨_, rfl⟩
    obtain ⟨s2, hs2⟩ : ∃ x, x = leftC ⟨sl, gn, os, wn⟩ f pg ps := ⟨_, rfl⟩
    obtain ⟨f2, hf2⟩ : ∃ x, x = fuseC f pg ps := ⟨_, rfl⟩
    rw [← htv]
    rw [← hs2, ← hf2] at HP24 HBD1
    rw [← hs2, ← htv] at HFC
    clear hs2 hf2 HBD htv ek
    obtain ⟨sl2, gn2, os2, wn2⟩ := s2
    have hfc := HFC.out
    have hsl := HSL.out
    simp only at hfc
    clear HFC HSL
    rcases hsl with rfl | rfl
    · skip
      rcases hfc with ⟨rfl, rfl, rfl, h1, h2⟩ | ⟨et, h1, h2⟩ | ⟨hgt, h1, h2, h3⟩
      · skip
        subst h1 h2
        go_wp2_with fail
        refine (pk_cell w.heap.size b g _ _ v24 HP24.out).mono ?_
        rintro e v25 ⟨rfl, hb⟩
        have HP25 := Lib.hid (HP24.out.under hb)
        have HB25 := Lib.hid (HB24.out.trans (hb.mono HB24.out.size))
        have HCA25 := Lib.hid (HCA24.out.below hb)
        have HCW25 := Lib.hid (HCW24.out.below hb)
        clear hb HP24 HB24 HCA24 HCW24
        go_upto_region 15 with (fail)
        obtain ⟨Nb, hNb⟩ : ∃ X, X = v25.heap.size := ⟨_, rfl⟩
        rw [← hNb]
        refine name_w (fun W => Pk W w.heap.size b g ⟨0, gn, os2, wn2⟩ f2 ∧ ActB W Ab kd gn 0 (.slice A' po.length c') ∧ Cel W Wb 0 gn ∧ Cel W Nb 0 gn ∧ Below w.heap.size w W) ?_ ?_
        · have bb := below_alloc v25 (.cells #[.int .i64 0, .int .i64 gn] 34)
          rw [hNb]
          exact ⟨HP25.out.under bb, HCA25.out.below bb, HCW25.out.below bb, Cel.new _ _ _, HB25.out.trans (bb.mono HB25.out.size)⟩
        have LEN : Hid (w.heap.size ≤ Nb) := Lib.hid (by rw [hNb]; exact HB25.out.size)
        have NEAN : Hid (Ab ≠ Nb) := Lib.hid (by rw [hNb]; exact Nat.ne_of_lt HCA25.out.lt)
        have NENA : Hid (Nb ≠ Ab) := Lib.hid (Ne.symm NEAN.out)
        have NEWN : Hid (Wb ≠ Nb) := Lib.hid (by rw [hNb]; exact Nat.ne_of_lt HCW25.out.lt)
        have NENW : Hid (Nb ≠ Wb) := Lib.hid (Ne.symm NEWN.out)
        clear hNb HP25 HB25 HCA25 HCW25
        rintro v26 ⟨h0, h1, h2, h3, h4⟩
        have HP26 := Lib.hid h0
        have HCA26 := Lib.hid h1
        have HCW26 := Lib.hid h2
        have HCN26 := Lib.hid h3
        have HB26 := Lib.hid h4
        clear h0 h1 h2 h3 h4
        have kA1 := HCA26.out.c1
        have kA2 := HCA26.out.c2
        go_upto_region 16 with (fail)
        obtain ⟨Tb, hTb⟩ : ∃ X, X = v26.heap.size := ⟨_, rfl⟩
        rw [← hTb]
        refine name_w (fun W => Pk W w.heap.size b g ⟨0, gn, os2, wn2⟩ f2 ∧ ActB W Ab kd gn 0 (.slice A' po.length c') ∧ Cel W Wb 0 gn ∧ Cel W Nb 0 gn ∧ Cel W Tb 0 gn ∧ Below w.heap.size w W) ?_ ?_
        · have bb := below_alloc v26 (.cells #[.int .i64 0, .int .i64 gn] 34)
          rw [hTb]
          exact ⟨HP26.out.under bb, HCA26.out.below bb, HCW26.out.below bb, HCN26.out.below bb, Cel.new _ _ _, HB26.out.trans (bb.mono HB26.out.size)⟩
        clear kA1 kA2
        have LET : Hid (w.heap.size ≤ Tb) := Lib.hid (by rw [hTb]; exact HB26.out.size)
        have NEAT : Hid (Ab ≠ Tb) := Lib.hid (by rw [hTb]; exact Nat.ne_of_lt HCA26.out.lt)
        have NETA : Hid (Tb ≠ Ab) := Lib.hid (Ne.symm NEAT.out)
        have NEWT : Hid (Wb ≠ Tb) := Lib.hid (by rw [hTb]; exact Nat.ne_of_lt HCW26.out.lt)
        have NETW : Hid (Tb ≠ Wb) := Lib.hid (Ne.symm NEWT.out)
        have NENT : Hid (Nb ≠ Tb) := Lib.hid (by rw [hTb]; exact Nat.ne_of_lt HCN26.out.lt)
        have NETN : Hid (Tb ≠ Nb) := Lib.hid (Ne.symm NENT.out)
        clear hTb HP26 HB26 HCA26 HCW26 HCN26
        rintro v27 ⟨h0, h1, h2, h3, h4, h5⟩
        have HP27 := Lib.hid h0
        have HCA27 := Lib.hid h1
        have HCW27 := Lib.hid h2
        have HCN27 := Lib.hid h3
        have HCT27 := Lib.hid h4
        have HB27 := Lib.hid h5
        clear h0 h1 h2 h3 h4 h5
        have kN0 := HCN27.out.c0
        have kN1 := HCN27.out.c1
        have kW0 := HCW27.out.c0
        have kW1 := HCW27.out.c1
        have kT0 := HCT27.out.c0
        have kT1 := HCT27.out.c1
        go_wp2
        go_roundg (xs.length - (k + 1))
        case measure => have := HG.out; have := HLT.out; omega
        case rel => exact ⟨k + 1, 0, gn, wn2, os2, f2, Lib.hid rfl, HLT.out, by go_num, Lib.hid (by simp), HBD1, HP27, HB27⟩
      · skip
        subst h1 h2
        go_wp2_with fail
        refine (pk_cell w.heap.size b g _ _ v24 HP24.out).mono ?_
        rintro e v25 ⟨rfl, hb⟩
        have HP25 := Lib.hid (HP24.out.under hb)
        have HB25 := Lib.hid (HB24.out.trans (hb.mono HB24.out.size))
        have HCA25 := Lib.hid (HCA24.out.below hb)
        have HCW25 := Lib.hid (HCW24.out.below hb)
        clear hb HP24 HB24 HCA24 HCW24
        go_upto_region 15 with (fail)
        obtain ⟨Nb, hNb⟩ : ∃ X, X = v25.heap.size := ⟨_, rfl⟩
        rw [← hNb]
        refine name_w (fun W => Pk W w.heap.size b g ⟨0, gn2, os2, wn2⟩ f2 ∧ ActB W Ab kd pg ps (.slice A' po.length c') ∧ Cel W Wb 0 gn2 ∧ Cel W Nb 0 gn2 ∧ Below w.heap.size w W) ?_ ?_
        · have bb := below_alloc v25 (.cells #[.int .i64 0, .int .i64 gn2] 34)
          rw [hNb]
          exact ⟨HP25.out.under bb, HCA25.out.below bb, HCW25.out.below bb, Cel.new _ _ _, HB25.out.trans (bb.mono HB25.out.size)⟩
        have LEN : Hid (w.heap.size ≤ Nb) := Lib.hid (by rw [hNb]; exact HB25.out.size)
        have NEAN : Hid (Ab ≠ Nb) := Lib.hid (by rw [hNb]; exact Nat.ne_of_lt HCA25.out.lt)
        have NENA : Hid (Nb ≠ Ab) := Lib.hid (Ne.symm NEAN.out)
        have NEWN : Hid (Wb ≠ Nb) := Lib.hid (by rw [hNb]; exact Nat.ne_of_lt HCW25.out.lt)
        have NENW : Hid (Nb ≠ Wb) := Lib.hid (Ne.symm NEWN.out)
        clear hNb HP25 HB25 HCA25 HCW25
        rintro v26 ⟨h0, h1, h2, h3, h4⟩
        have HP26 := Lib.hid h0
        have HCA26 := Lib.hid h1
        have HCW26 := Lib.hid h2
        have HCN26 := Lib.hid h3
        have HB26 := Lib.hid h4
        clear h0 h1 h2 h3 h4
        have kA1 := HCA26.out.c1
        have kA2 := HCA26.out.c2
        go_upto_region 16 with (fail)
        obtain ⟨Tb, hTb⟩ : ∃ X, X = v26.heap.size := ⟨_, rfl⟩
        rw [← hTb]
        refine name_w (fun W => Pk W w.heap.size b g ⟨0, gn2, os2, wn2⟩ f2 ∧ ActB W Ab kd pg ps (.slice A' po.length c') ∧ Cel W Wb 0 gn2 ∧ Cel W Nb 0 gn2 ∧ Cel W Tb ps pg ∧ Below w.heap.size w W) ?_ ?_
        · have bb := below_alloc v26 (.cells #[.int .i64 ps, .int .i64 pg] 34)
          rw [hTb]
          exact ⟨HP26.out.under bb, HCA26.out.below bb, HCW26.out.below bb, HCN26.out.below bb, Cel.new _ _ _, HB26.out.trans (bb.mono HB26.out.size)⟩
        clear kA1 kA2
        have LET : Hid (w.heap.size ≤ Tb) := Lib.hid (by rw [hTb]; exact HB26.out.size)
        have NEAT : Hid (Ab ≠ Tb) := Lib.hid (by rw [hTb]; exact Nat.ne_of_lt HCA26.out.lt)
        have NETA : Hid (Tb ≠ Ab) := Lib.hid (Ne.symm NEAT.out)
        have NEWT : Hid (Wb ≠ Tb) := Lib.hid (by rw [hTb]; exact Nat.ne_of_lt HCW26.out.lt)
        have NETW : Hid (Tb ≠ Wb) := Lib.hid (Ne.symm NEWT.out)
        have NENT : Hid (Nb ≠ Tb) := Lib.hid (by rw [hTb]; exact Nat.ne_of_lt HCN26.out.lt)
        have NETN : Hid (Tb ≠ Nb) := Lib.hid (Ne.symm NENT.out)
        clear hTb HP26 HB26 HCA26 HCW26 HCN26
        rintro v27 ⟨h0, h1, h2, h3, h4, h5⟩
        have HP27 := Lib.hid h0
        have HCA27 := Lib.hid h1
        have HCW27 := Lib.hid h2
        have HCN27 := Lib.hid h3
        have HCT27 := Lib.hid h4
        have HB27 := Lib.hid h5
        clear h0 h1 h2 h3 h4 h5
        have kN0 := HCN27.out.c0
        have kN1 := HCN27.out.c1
        have kW0 := HCW27.out.c0
        have kW1 := HCW27.out.c1
        have kT0 := HCT27.out.c0
        have kT1 := HCT27.out.c1
        go_wp2
        go_roundg (xs.length - (k + 1))
        case measure => have := HG.out; have := HLT.out; omega
        case rel => exact ⟨k + 1, 0, gn2, wn2, os2, f2, Lib.hid rfl, HLT.out, by go_num, Lib.hid (by simp), HBD1, HP27, HB27⟩
      · skip
        have ge : (gn2 == gn) = false := by simp; omega
        have gl : decide (gn2 ≤ gn) = false := by simp; omega
        subst h1 h2
        clear hgt
        rcases h3 with rfl | rfl
        · skip
          cases et : (tv == 0)
          · skip
            go_wp2_with fail
            refine (pk_cell w.heap.size b g _ _ v24 HP24.out).mono ?_
            rintro e v25 ⟨rfl, hb⟩
            have HP25 := Lib.hid (HP24.out.under hb)
            have HB25 := Lib.hid (HB24.out.trans (hb.mono HB24.out.size))
            have HCA25 := Lib.hid (HCA24.out.below hb)
            have HCW25 := Lib.hid (HCW24.out.below hb)
            clear hb HP24 HB24 HCA24 HCW24
            go_upto_region 15 with (fail)
            obtain ⟨Nb, hNb⟩ : ∃ X, X = v25.heap.size := ⟨_, rfl⟩
            rw [← hNb]
            refine name_w (fun W => Pk W w.heap.size b g ⟨0, gn2, os2, wn2⟩ f2 ∧ ActB W Ab kd gn2 0 (.slice A' po.length c') ∧ Cel W Wb 0 gn ∧ Cel W Nb 0 gn2 ∧ Below w.heap.size w W) ?_ ?_
            · have bb := below_alloc v25 (.cells #[.int .i64 0, .int .i64 gn2] 34)
              rw [hNb]
              exact ⟨HP25.out.under bb, HCA25.out.below bb, HCW25.out.below bb, Cel.new _ _ _, HB25.out.trans (bb.mono HB25.out.size)⟩
            have LEN : Hid (w.heap.size ≤ Nb) := Lib.hid (by rw [hNb]; exact HB25.out.size)
            have NEAN : Hid (Ab ≠ Nb) := Lib.hid (by rw [hNb]; exact Nat.ne_of_lt HCA25.out.lt)
            have NENA : Hid (Nb ≠ Ab) := Lib.hid (Ne.symm NEAN.out)
            have NEWN : Hid (Wb ≠ Nb) := Lib.hid (by rw [hNb]; exact Nat.ne_of_lt HCW25.out.lt)
            have NENW : Hid (Nb ≠ Wb) := Lib.hid (Ne.symm NEWN.out)
            clear hNb HP25 HB25 HCA25 HCW25
            rintro v26 ⟨h0, h1, h2, h3, h4⟩
            have HP26 := Lib.hid h0
            have HCA26 := Lib.hid h1
            have HCW26 := Lib.hid h2
            have HCN26 := Lib.hid h3
            have HB26 := Lib.hid h4
            clear h0 h1 h2 h3 h4
            have kA1 := HCA26.out.c1
            have kA2 := HCA26.out.c2
            go_upto_region 16 with (fail)
            obtain ⟨Tb, hTb⟩ : ∃ X, X = v26.heap.size := ⟨_, rfl⟩
            rw [← hTb]
            refine name_w (fun W => Pk W w.heap.size b g ⟨0, gn2, os2, wn2⟩ f2 ∧ ActB W Ab kd gn2 0 (.slice A' po.length c') ∧ Cel W Wb 0 gn ∧ Cel W Nb 0 gn2 ∧ Cel W Tb 0 gn2 ∧ Below w.heap.size w W) ?_ ?_
            · have bb := below_alloc v26 (.cells #[.int .i64 0, .int .i64 gn2] 34)
              rw [hTb]
              exact ⟨HP26.out.under bb, HCA26.out.below bb, HCW26.out.below bb, HCN26.out.below bb, Cel.new _ _ _, HB26.out.trans (bb.mono HB26.out.size)⟩
            clear kA1 kA2
            have LET : Hid (w.heap.size ≤ Tb) := Lib.hid (by rw [hTb]; exact HB26.out.size)
            have NEAT : Hid (Ab ≠ Tb) := Lib.hid (by rw [hTb]; exact Nat.ne_of_lt HCA26.out.lt)
            have NETA : Hid (Tb ≠ Ab) := Lib.hid (Ne.symm NEAT.out)
            have NEWT : Hid (Wb ≠ Tb) := Lib.hid (by rw [hTb]; exact Nat.ne_of_lt HCW26.out.lt)
            have NETW : Hid (Tb ≠ Wb) := Lib.hid (Ne.symm NEWT.out)
            have NENT : Hid (Nb ≠ Tb) := Lib.hid (by rw [hTb]; exact Nat.ne_of_lt HCN26.out.lt)
            have NETN : Hid (Tb ≠ Nb) := Lib.hid (Ne.symm NENT.out)
            clear hTb HP26 HB26 HCA26 HCW26 HCN26
            rintro v27 ⟨h0, h1, h2, h3, h4, h5⟩
            have HP27 := Lib.hid h0
            have HCA27 := Lib.hid h1
            have HCW27 := Lib.hid h2
            have HCN27 := Lib.hid h3
            have HCT27 := Lib.hid h4
            have HB27 := Lib.hid h5
            clear h0 h1 h2 h3 h4 h5
            have kN0 := HCN27.out.c0
            have kN1 := HCN27.out.c1
            have kW0 := HCW27.out.c0
            have kW1 := HCW27.out.c1
            have kT0 := HCT27.out.c0
            have kT1 := HCT27.out.c1
            go_wp2
            go_roundg (xs.length - (k + 1))
            case measure => have := HG.out; have := HLT.out; omega
            case rel => exact ⟨k + 1, 0, gn2, wn2, os2, f2, Lib.hid rfl, HLT.out, by go_num, Lib.hid (by simp), HBD1, HP27, HB27⟩
          · skip
            go_wp2_with fail
            refine (pk_cell w.heap.size b g _ _ v24 HP24.out).mono ?_
            rintro e v25 ⟨rfl, hb⟩
            have HP25 := Lib.hid (HP24.out.under hb)
            have HB25 := Lib.hid (HB24.out.trans (hb.mono HB24.out.size))
            have HCA25 := Lib.hid (HCA24.out.below hb)
            have HCW25 := Lib.hid (HCW24.out.below hb)
            clear hb HP24 HB24 HCA24 HCW24
            go_upto_region 15 with (fail)
            obtain ⟨Nb, hNb⟩ : ∃ X, X = v25.heap.size := ⟨_, rfl⟩
            rw [← hNb]
            refine name_w (fun W => Pk W w.heap.size b g ⟨0, gn2, os2, wn2⟩ f2 ∧ ActB W Ab kd gn2 0 (.slice A' po.length c') ∧ Cel W Wb 0 gn ∧ Cel W Nb 0 gn2 ∧ Below w.heap.size w W) ?_ ?_
            · have bb := below_alloc v25 (.cells #[.int .i64 0, .int .i64 gn2] 34)
              rw [hNb]
              exact ⟨HP25.out.under bb, HCA25.out.below bb, HCW25.out.below bb, Cel.new _ _ _, HB25.out.trans (bb.mono HB25.out.size)⟩
            have LEN : Hid (w.heap.size ≤ Nb) := Lib.hid (by rw [hNb]; exact HB25.out.size)
            have NEAN : Hid (Ab ≠ Nb) := Lib.hid (by rw [hNb]; exact Nat.ne_of_lt HCA25.out.lt)
            have NENA : Hid (Nb ≠ Ab) := Lib.hid (Ne.symm NEAN.out)
            have NEWN : Hid (Wb ≠ Nb) := Lib.hid (by rw [hNb]; exact Nat.ne_of_lt HCW25.out.lt)
            have NENW : Hid (Nb ≠ Wb) := Lib.hid (Ne.symm NEWN.out)
            clear hNb HP25 HB25 HCA25 HCW25
            rintro v26 ⟨h0, h1, h2, h3, h4⟩
            have HP26 := Lib.hid h0
            have HCA26 := Lib.hid h1
            have HCW26 := Lib.hid h2
            have HCN26 := Lib.hid h3
            have HB26 := Lib.hid h4
            clear h0 h1 h2 h3 h4
            have kA1 := HCA26.out.c1
            have kA2 := HCA26.out.c2
            go_upto_region 16 with (fail)
            obtain ⟨Tb, hTb⟩ : ∃ X, X = v26.heap.size := ⟨_, rfl⟩
            rw [← hTb]
            refine name_w (fun W => Pk W w.heap.size b g ⟨0, gn2, os2, wn2⟩ f2 ∧ ActB W Ab kd gn2 0 (.slice A' po.length c') ∧ Cel W Wb 0 gn ∧ Cel W Nb 0 gn2 ∧ Cel W Tb 0 gn2 ∧ Below w.heap.size w W) ?_ ?_
            · have bb := below_alloc v26 (.cells #[.int .i64 0, .int .i64 gn2] 34)
              rw [hTb]
              exact ⟨HP26.out.under bb, HCA26.out.below bb, HCW26.out.below bb, HCN26.out.below bb, Cel.new _ _ _, HB26.out.trans (bb.mono HB26.out.size)⟩
            clear kA1 kA2
            have LET : Hid (w.heap.size ≤ Tb) := Lib.hid (by rw [hTb]; exact HB26.out.size)
            have NEAT : Hid (Ab ≠ Tb) := Lib.hid (by rw [hTb]; exact Nat.ne_of_lt HCA26.out.lt)
            have NETA : Hid (Tb ≠ Ab) := Lib.hid (Ne.symm NEAT.out)
            have NEWT : Hid (Wb ≠ Tb) := Lib.hid (by rw [hTb]; exact Nat.ne_of_lt HCW26.out.lt)
            have NETW : Hid (Tb ≠ Wb) := Lib.hid (Ne.symm NEWT.out)
            have NENT : Hid (Nb ≠ Tb) := Lib.hid (by rw [hTb]; exact Nat.ne_of_lt HCN26.out.lt)
            have NETN : Hid (Tb ≠ Nb) := Lib.hid (Ne.symm NENT.out)
            clear hTb HP26 HB26 HCA26 HCW26 HCN26
            rintro v27 ⟨h0, h1, h2, h3, h4, h5⟩
            have HP27 := Lib.hid h0
            have HCA27 := Lib.hid h1
            have HCW27 := Lib.hid h2
            have HCN27 := Lib.hid h3
            have HCT27 := Lib.hid h4
            have HB27 := Lib.hid h5
            clear h0 h1 h2 h3 h4 h5
            have kN0 := HCN27.out.c0
            have kN1 := HCN27.out.c1
            have kW0 := HCW27.out.c0
            have kW1 := HCW27.out.c1
            have kT0 := HCT27.out.c0
            have kT1 := HCT27.out.c1
            go_wp2
            go_roundg (xs.length - (k + 1))
            case measure => have := HG.out; have := HLT.out; omega
            case rel => exact ⟨k + 1, 0, gn2, wn2, os2, f2, Lib.hid rfl, HLT.out, by go_num, Lib.hid (by simp), HBD1, HP27, HB27⟩
        · skip
          cases et : (tv == 0)
          · skip
            go_wp2_with fail
            refine (pk_cell w.heap.size b g _ _ v24 HP24.out).mono ?_
            rintro e v25 ⟨rfl, hb⟩
            have HP25 := Lib.hid (HP24.out.under hb)
            have HB25 := Lib.hid (HB24.out.trans (hb.mono HB24.out.size))
            have HCA25 := Lib.hid (HCA24.out.below hb)
            have HCW25 := Lib.hid (HCW24.out.below hb)
            clear hb HP24 HB24 HCA24 HCW24
            go_upto_region 15 with (fail)
            obtain ⟨Nb, hNb⟩ : ∃ X, X = v25.heap.size := ⟨_, rfl⟩
            rw [← hNb]
            refine name_w (fun W => Pk W w.heap.size b g ⟨1, gn2, os2, wn2⟩ f2 ∧ ActB W Ab kd gn2 1 (.slice A' po.length c') ∧ Cel W Wb 0 gn ∧ Cel W Nb 1 gn2 ∧ Below w.heap.size w W) ?_ ?_
            · have bb := below_alloc v25 (.cells #[.int .i64 1, .int .i64 gn2] 34)
              rw [hNb]
              exact ⟨HP25.out.under bb, HCA25.out.below bb, HCW25.out.below bb, Cel.new _ _ _, HB25.out.trans (bb.mono HB25.out.size)⟩
            have LEN : Hid (w.heap.size ≤ Nb) := Lib.hid (by rw [hNb]; exact HB25.out.size)
            have NEAN : Hid (Ab ≠ Nb) := Lib.hid (by rw [hNb]; exact Nat.ne_of_lt HCA25.out.lt)
            have NENA : Hid (Nb ≠ Ab) := Lib.hid (Ne.symm NEAN.out)
            have NEWN : Hid (Wb ≠ Nb) := Lib.hid (by rw [hNb]; exact Nat.ne_of_lt HCW25.out.lt)
            have NENW : Hid (Nb ≠ Wb) := Lib.hid (Ne.symm NEWN.out)
            clear hNb HP25 HB25 HCA25 HCW25
            rintro v26 ⟨h0, h1, h2, h3, h4⟩
            have HP26 := Lib.hid h0
            have HCA26 := Lib.hid h1
            have HCW26 := Lib.hid h2
            have HCN26 := Lib.hid h3
            have HB26 := Lib.hid h4
            clear h0 h1 h2 h3 h4
            have kA1 := HCA26.out.c1
            have kA2 := HCA26.out.c2
            go_upto_region 16 with (fail)
            obtain ⟨Tb, hTb⟩ : ∃ X, X = v26.heap.size := ⟨_, rfl⟩
            rw [← hTb]
            refine name_w (fun W => Pk W w.heap.size b g ⟨1, gn2, os2, wn2⟩ f2 ∧ ActB W Ab kd gn2 1 (.slice A' po.length c') ∧ Cel W Wb 0 gn ∧ Cel W Nb 1 gn2 ∧ Cel W Tb 1 gn2 ∧ Below w.heap.size w W) ?_ ?_
            · have bb := below_alloc v26 (.cells #[.int .i64 1, .int .i64 gn2] 34)
              rw [hTb]
              exact ⟨HP26.out.under bb, HCA26.out.below bb, HCW26.out.below bb, HCN26.out.below bb, Cel.new _ _ _, HB26.out.trans (bb.mono HB26.out.size)⟩
            clear kA1 kA2
            have LET : Hid (w.heap.size ≤ Tb) := Lib.hid (by rw [hTb]; exact HB26.out.size)
            have NEAT : Hid (Ab ≠ Tb) := Lib.hid (by rw [hTb]; exact Nat.ne_of_lt HCA26.out.lt)
            have NETA : Hid (Tb ≠ Ab) := Lib.hid (Ne.symm NEAT.out)
            have NEWT : Hid (Wb ≠ Tb) := Lib.hid (by rw [hTb]; exact Nat.ne_of_lt HCW26.out.lt)
            have NETW : Hid (Tb ≠ Wb) := Lib.hid (Ne.symm NEWT.out)
            have NENT : Hid (Nb ≠ Tb) := Lib.hid (by rw [hTb]; exact Nat.ne_of_lt HCN26.out.lt)
            have NETN : Hid (Tb ≠ Nb) := Lib.hid (Ne.symm NENT.out)
            clear hTb HP26 HB26 HCA26 HCW26 HCN26
            rintro v27 ⟨h0, h1, h2, h3, h4, h5⟩
            have HP27 := Lib.hid h0
            have HCA27 := Lib.hid h1
            have HCW27 := Lib.hid h2
            have HCN27 := Lib.hid h3
            have HCT27 := Lib.hid h4
            have HB27 := Lib.hid h5
            clear h0 h1 h2 h3 h4 h5
            have kN0 := HCN27.out.c0
            have kN1 := HCN27.out.c1
            have kW0 := HCW27.out.c0
            have kW1 := HCW27.out.c1
            have kT0 := HCT27.out.c0
            have kT1 := HCT27.out.c1
            go_wp2
            go_roundg (xs.length - (k + 1))
            case measure => have := HG.out; have := HLT.out; omega
            case rel => exact ⟨k + 1, 1, gn2, wn2, os2, f2, Lib.hid rfl, HLT.out, by go_num, Lib.hid (by simp), HBD1, HP27, HB27⟩
          · skip
            go_wp2_with fail
            refine (pk_cell w.heap.size b g _ _ v24 HP24.out).mono ?_
            rintro e v25 ⟨rfl, hb⟩
            have HP25 := Lib.hid (HP24.out.under hb)
            have HB25 := Lib.hid (HB24.out.trans (hb.mono HB24.out.size))
            have HCA25 := Lib.hid (HCA24.out.below hb)
            have HCW25 := Lib.hid (HCW24.out.below hb)
            clear hb HP24 HB24 HCA24 HCW24
            go_upto_region 15 with (fail)
            obtain ⟨Nb, hNb⟩ : ∃ X, X = v25.heap.size := ⟨_, rfl⟩
            rw [← hNb]
            refine name_w (fun W => Pk W w.heap.size b g ⟨1, gn2, os2, wn2⟩ f2 ∧ ActB W Ab kd gn2 1 (.slice A' po.length c') ∧ Cel W Wb 0 gn ∧ Cel W Nb 1 gn2 ∧ Below w.heap.size w W) ?_ ?_
            · have bb := below_alloc v25 (.cells #[.int .i64 1, .int .i64 gn2] 34)
              rw [hNb]
              exact ⟨HP25.out.under bb, HCA25.out.below bb, HCW25.out.below bb, Cel.new _ _ _, HB25.out.trans (bb.mono HB25.out.size)⟩
            have LEN : Hid (w.heap.size ≤ Nb) := Lib.hid (by rw [hNb]; exact HB25.out.size)
            have NEAN : Hid (Ab ≠ Nb) := Lib.hid (by rw [hNb]; exact Nat.ne_of_lt HCA25.out.lt)
            have NENA : Hid (Nb ≠ Ab) := Lib.hid (Ne.symm NEAN.out)
            have NEWN : Hid (Wb ≠ Nb) := Lib.hid (by rw [hNb]; exact Nat.ne_of_lt HCW25.out.lt)
            have NENW : Hid (Nb ≠ Wb) := Lib.hid (Ne.symm NEWN.out)
            clear hNb HP25 HB25 HCA25 HCW25
            rintro v26 ⟨h0, h1, h2, h3, h4⟩
            have HP26 := Lib.hid h0
            have HCA26 := Lib.hid h1
            have HCW26 := Lib.hid h2
            have HCN26 := Lib.hid h3
            have HB26 := Lib.hid h4
            clear h0 h1 h2 h3 h4
            have kA1 := HCA26.out.c1
            have kA2 := HCA26.out.c2
            go_upto_region 16 with (fail)
            obtain ⟨Tb, hTb⟩ : ∃ X, X = v26.heap.size := ⟨_, rfl⟩
            rw [← hTb]
            refine name_w (fun W => Pk W w.heap.size b g ⟨1, gn2, os2, wn2⟩ f2 ∧ ActB W Ab kd gn2 1 (.slice A' po.length c') ∧ Cel W Wb 0 gn ∧ Cel W Nb 1 gn2 ∧ Cel W Tb 1 gn2 ∧ Below w.heap.size w W) ?_ ?_
            · have bb := below_alloc v26 (.cells #[.int .i64 1, .int .i64 gn2] 34)
              rw [hTb]
              exact ⟨HP26.out.under bb, HCA26.out.below bb, HCW26.out.below bb, HCN26.out.below bb, Cel.new _ _ _, HB26.out.trans (bb.mono HB26.out.size)⟩
            clear kA1 kA2
            have LET : Hid (w.heap.size ≤ Tb) := Lib.hid (by rw [hTb]; exact HB26.out.size)
            have NEAT : Hid (Ab ≠ Tb) := Lib.hid (by rw [hTb]; exact Nat.ne_of_lt HCA26.out.lt)
            have NETA : Hid (Tb ≠ Ab) := Lib.hid (Ne.symm NEAT.out)
            have NEWT : Hid (Wb ≠ Tb) := Lib.hid (by rw [hTb]; exact Nat.ne_of_lt HCW26.out.lt)
            have NETW : Hid (Tb ≠ Wb) := Lib.hid (Ne.symm NEWT.out)
            have NENT : Hid (Nb ≠ Tb) := Lib.hid (by rw [hTb]; exact Nat.ne_of_lt HCN26.out.lt)
            have NETN : Hid (Tb ≠ Nb) := Lib.hid (Ne.symm NENT.out)
            clear hTb HP26 HB26 HCA26 HCW26 HCN26
            rintro v27 ⟨h0, h1, h2, h3, h4, h5⟩
            have HP27 := Lib.hid h0
            have HCA27 := Lib.hid h1
            have HCW27 := Lib.hid h2
            have HCN27 := Lib.hid h3
            have HCT27 := Lib.hid h4
            have HB27 := Lib.hid h5
            clear h0 h1 h2 h3 h4 h5
            have kN0 := HCN27.out.c0
            have kN1 := HCN27.out.c1
            have kW0 := HCW27.out.c0
            have kW1 := HCW27.out.c1
            have kT0 := HCT27.out.c0
            have kT1 := HCT27.out.c1
            go_wp2
            go_roundg (xs.length - (k + 1))
            case measure => have := HG.out; have := HLT.out; omega
            case rel => exact ⟨k + 1, 1, gn2, wn2, os2, f2, Lib.hid rfl, HLT.out, by go_num, Lib.hid (by simp), HBD1, HP27, HB27⟩
    · skip
      rcases hfc with ⟨rfl, rfl, rfl, h1, h2⟩ | ⟨et, h1, h2⟩ | ⟨hgt, h1, h2, h3⟩
      · skip
        subst h1 h2
        go_wp2_with fail
        refine (pk_cell w.heap.size b g _ _ v24 HP24.out).mono ?_
        rintro e v25 ⟨rfl, hb⟩
        have HP25 := Lib.hid (HP24.out.under hb)
        have HB25 := Lib.hid (HB24.out.trans (hb.mono HB24.out.size))
        have HCA25 := Lib.hid (HCA24.out.below hb)
        have HCW25 := Lib.hid (HCW24.out.below hb)
        clear hb HP24 HB24 HCA24 HCW24
        go_upto_region 15 with (fail)
        obtain ⟨Nb, hNb⟩ : ∃ X, X = v25.heap.size := ⟨_, rfl⟩
        rw [← hNb]
        refine name_w (fun W => Pk W w.heap.size b g ⟨1, gn, os2, wn2⟩ f2 ∧ ActB W Ab kd gn 1 (.slice A' po.length c') ∧ Cel W Wb 1 gn ∧ Cel W Nb 1 gn ∧ Below w.heap.size w W) ?_ ?_
        · have bb := below_alloc v25 (.cells #[.int .i64 1, .int .i64 gn] 34)
          rw [hNb]
          exact ⟨HP25.out.under bb, HCA25.out.below bb, HCW25.out.below bb, Cel.new _ _ _, HB25.out.trans (bb.mono HB25.out.size)⟩
        have LEN : Hid (w.heap.size ≤ Nb) := Lib.hid (by rw [hNb]; exact HB25.out.size)
        have NEAN : Hid (Ab ≠ Nb) := Lib.hid (by rw [hNb]; exact Nat.ne_of_lt HCA25.out.lt)
        have NENA : Hid (Nb ≠ Ab) := Lib.hid (Ne.symm NEAN.out)
        have NEWN : Hid (Wb ≠ Nb) := Lib.hid (by rw [hNb]; exact Nat.ne_of_lt HCW25.out.lt)
        have NENW : Hid (Nb ≠ Wb) := Lib.hid (Ne.symm NEWN.out)
        clear hNb HP25 HB25 HCA25 HCW25
        rintro v26 ⟨h0, h1, h2, h3, h4⟩
        have HP26 := Lib.hid h0
        have HCA26 := Lib.hid h1
        have HCW26 := Lib.hid h2
        have HCN26 := Lib.hid h3
        have HB26 := Lib.hid h4
        clear h0 h1 h2 h3 h4
        have kA1 := HCA26.out.c1
        have kA2 := HCA26.out.c2
        go_upto_region 16 with (fail)
        obtain ⟨Tb, hTb⟩ : ∃ X, X = v26.heap.size := ⟨_, rfl⟩
        rw [← hTb]
        refine name_w (fun W => Pk W w.heap.size b g ⟨1, gn, os2, wn2⟩ f2 ∧ ActB W Ab kd gn 1 (.slice A' po.length c') ∧ Cel W Wb 1 gn ∧ Cel W Nb 1 gn ∧ Cel W Tb 1 gn ∧ Below w.heap.size w W) ?_ ?_
        · have bb := below_alloc v26 (.cells #[.int .i64 1, .int .i64 gn] 34)
          rw [hTb]
          exact ⟨HP26.out.under bb, HCA26.out.below bb, HCW26.out.below bb, HCN26.out.below bb, Cel.new _ _ _, HB26.out.trans (bb.mono HB26.out.size)⟩
        clear kA1 kA2
        have LET : Hid (w.heap.size ≤ Tb) := Lib.hid (by rw [hTb]; exact HB26.out.size)
        have NEAT : Hid (Ab ≠ Tb) := Lib.hid (by rw [hTb]; exact Nat.ne_of_lt HCA26.out.lt)
        have NETA : Hid (Tb ≠ Ab) := Lib.hid (Ne.symm NEAT.out)
        have NEWT : Hid (Wb ≠ Tb) := Lib.hid (by rw [hTb]; exact Nat.ne_of_lt HCW26.out.lt)
        have NETW : Hid (Tb ≠ Wb) := Lib.hid (Ne.symm NEWT.out)
        have NENT : Hid (Nb ≠ Tb) := Lib.hid (by rw [hTb]; exact Nat.ne_of_lt HCN26.out.lt)
        have NETN : Hid (Tb ≠ Nb) := Lib.hid (Ne.symm NENT.out)
        clear hTb HP26 HB26 HCA26 HCW26 HCN26
        rintro v27 ⟨h0, h1, h2, h3, h4, h5⟩
        have HP27 := Lib.hid h0
        have HCA27 := Lib.hid h1
        have HCW27 := Lib.hid h2
        have HCN27 := Lib.hid h3
        have HCT27 := Lib.hid h4
        have HB27 := Lib.hid h5
        clear h0 h1 h2 h3 h4 h5
        have kN0 := HCN27.out.c0
        have kN1 := HCN27.out.c1
        have kW0 := HCW27.out.c0
        have kW1 := HCW27.out.c1
        have kT0 := HCT27.out.c0
        have kT1 := HCT27.out.c1
        go_wp2
        go_roundg (xs.length - (k + 1))
        case measure => have := HG.out; have := HLT.out; omega
        case rel => exact ⟨k + 1, 1, gn, wn2, os2, f2, Lib.hid rfl, HLT.out, by go_num, Lib.hid (by simp), HBD1, HP27, HB27⟩
      · skip
        subst h1 h2
        go_wp2_with fail
        refine (pk_cell w.heap.size b g _ _ v24 HP24.out).mono ?_
        rintro e v25 ⟨rfl, hb⟩
        have HP25 := Lib.hid (HP24.out.under hb)
        have HB25 := Lib.hid (HB24.out.trans (hb.mono HB24.out.size))
        have HCA25 := Lib.hid (HCA24.out.below hb)
        have HCW25 := Lib.hid (HCW24.out.below hb)
        clear hb HP24 HB24 HCA24 HCW24
        go_upto_region 15 with (fail)
        obtain ⟨Nb, hNb⟩ : ∃ X, X = v25.heap.size := ⟨_, rfl⟩
        rw [← hNb]
        refine name_w (fun W => Pk W w.heap.size b g ⟨1, gn2, os2, wn2⟩ f2 ∧ ActB W Ab kd pg ps (.slice A' po.length c') ∧ Cel W Wb 1 gn2 ∧ Cel W Nb 1 gn2 ∧ Below w.heap.size w W) ?_ ?_
        · have bb := below_alloc v25 (.cells #[.int .i64 1, .int .i64 gn2] 34)
          rw [hNb]
          exact ⟨HP25.out.under bb, HCA25.out.below bb, HCW25.out.below bb, Cel.new _ _ _, HB25.out.trans (bb.mono HB25.out.size)⟩
        have LEN : Hid (w.heap.size ≤ Nb) := Lib.hid (by rw [hNb]; exact HB25.out.size)
        have NEAN : Hid (Ab ≠ Nb) := Lib.hid (by rw [hNb]; exact Nat.ne_of_lt HCA25.out.lt)
        have NENA : Hid (Nb ≠ Ab) := Lib.hid (Ne.symm NEAN.out)
        have NEWN : Hid (Wb ≠ Nb) := Lib.hid (by rw [hNb]; exact Nat.ne_of_lt HCW25.out.lt)
        have NENW : Hid (Nb ≠ Wb) := Lib.hid (Ne.symm NEWN.out)
        clear hNb HP25 HB25 HCA25 HCW25
        rintro v26 ⟨h0, h1, h2, h3, h4⟩
        have HP26 := Lib.hid h0
        have HCA26 := Lib.hid h1
        have HCW26 := Lib.hid h2
        have HCN26 := Lib.hid h3
        have HB26 := Lib.hid h4
        clear h0 h1 h2 h3 h4
        have kA1 := HCA26.out.c1
        have kA2 := HCA26.out.c2
        go_upto_region 16 with (fail)
        obtain ⟨Tb, hTb⟩ : ∃ X, X = v26.heap.size := ⟨_, rfl⟩
        rw [← hTb]
        refine name_w (fun W => Pk W w.heap.size b g ⟨1, gn2, os2, wn2⟩ f2 ∧ ActB W Ab kd pg ps (.slice A' po.length c') ∧ Cel W Wb 1 gn2 ∧ Cel W Nb 1 gn2 ∧ Cel W Tb ps pg ∧ Below w.heap.size w W) ?_ ?_
        · have bb := below_alloc v26 (.cells #[.int .i64 ps, .int .i64 pg] 34)
          rw [hTb]
          exact ⟨HP26.out.under bb, HCA26.out.below bb, HCW26.out.below bb, HCN26.out.below bb, Cel.new _ _ _, HB26.out.trans (bb.mono HB26.out.size)⟩
        clear kA1 kA2
        have LET : Hid (w.heap.size ≤ Tb) := Lib.hid (by rw [hTb]; exact HB26.out.size)
        have NEAT : Hid (Ab ≠ Tb) := Lib.hid (by rw [hTb]; exact Nat.ne_of_lt HCA26.out.lt)
        have NETA : Hid (Tb ≠ Ab) := Lib.hid (Ne.symm NEAT.out)
        have NEWT : Hid (Wb ≠ Tb) := Lib.hid (by rw [hTb]; exact Nat.ne_of_lt HCW26.out.lt)
        have NETW : Hid (Tb ≠ Wb) := Lib.hid (Ne.symm NEWT.out)
        have NENT : Hid (Nb ≠ Tb) := Lib.hid (by rw [hTb]; exact Nat.ne_of_lt HCN26.out.lt)
        have NETN : Hid (Tb ≠ Nb) := Lib.hid (Ne.symm NENT.out)
        clear hTb HP26 HB26 HCA26 HCW26 HCN26
        rintro v27 ⟨h0, h1, h2, h3, h4, h5⟩
        have HP27 := Lib.hid h0
        have HCA27 := Lib.hid h1
        have HCW27 := Lib.hid h2
        have HCN27 := Lib.hid h3
        have HCT27 := Lib.hid h4
        have HB27 := Lib.hid h5
        clear h0 h1 h2 h3 h4 h5
        have kN0 := HCN27.out.c0
        have kN1 := HCN27.out.c1
        have kW0 := HCW27.out.c0
        have kW1 := HCW27.out.c1
        have kT0 := HCT27.out.c0
        have kT1 := HCT27.out.c1
        go_wp2
        go_roundg (xs.length - (k + 1))
        case measure => have := HG.out; have := HLT.out; omega
        case rel => exact ⟨k + 1, 1, gn2, wn2, os2, f2, Lib.hid rfl, HLT.out, by go_num, Lib.hid (by simp), HBD1, HP27, HB27⟩
      · skip
        have ge : (gn2 == gn) = false := by simp; omega
        have gl : decide (gn2 ≤ gn) = false := by simp; omega
        subst h1 h2
        clear hgt
        rcases h3 with rfl | rfl
        · skip
          cases et : (tv == 0)
          · skip
            go_wp2_with fail
            refine (pk_cell w.heap.size b g _ _ v24 HP24.out).mono ?_
            rintro e v25 ⟨rfl, hb⟩
            have HP25 := Lib.hid (HP24.out.under hb)
            have HB25 := Lib.hid (HB24.out.trans (hb.mono HB24.out.size))
            have HCA25 := Lib.hid (HCA24.out.below hb)
            have HCW25 := Lib.hid (HCW24.out.below hb)
            clear hb HP24 HB24 HCA24 HCW24
            go_upto_region 15 with (fail)
            obtain ⟨Nb, hNb⟩ : ∃ X, X = v25.heap.size := ⟨_, rfl⟩
            rw [← hNb]
            refine name_w (fun W => Pk W w.heap.size b g ⟨0, gn2, os2, wn2⟩ f2 ∧ ActB W Ab kd gn2 0 (.slice A' po.length c') ∧ Cel W Wb 1 gn ∧ Cel W Nb 0 gn2 ∧ Below w.heap.size w W) ?_ ?_
            · have bb := below_alloc v25 (.cells #[.int .i64 0, .int .i64 gn2] 34)
              rw [hNb]
              exact ⟨HP25.out.under bb, HCA25.out.below bb, HCW25.out.below bb, Cel.new _ _ _, HB25.out.trans (bb.mono HB25.out.size)⟩
            have LEN : Hid (w.heap.size ≤ Nb) := Lib.hid (by rw [hNb]; exact HB25.out.size)
            have NEAN : Hid (Ab ≠ Nb) := Lib.hid (by rw [hNb]; exact Nat.ne_of_lt HCA25.out.lt)
            have NENA : Hid (Nb ≠ Ab) := Lib.hid (Ne.symm NEAN.out)
            have NEWN : Hid (Wb ≠ Nb) := Lib.hid (by rw [hNb]; exact Nat.ne_of_lt HCW25.out.lt)
            have NENW : Hid (Nb ≠ Wb) := Lib.hid (Ne.symm NEWN.out)
            clear hNb HP25 HB25 HCA25 HCW25
            rintro v26 ⟨h0, h1, h2, h3, h4⟩
            have HP26 := Lib.hid h0
            have HCA26 := Lib.hid h1
            have HCW26 := Lib.hid h2
            have HCN26 := Lib.hid h3
            have HB26 := Lib.hid h4
            clear h0 h1 h2 h3 h4
            have kA1 := HCA26.out.c1
            have kA2 := HCA26.out.c2
            go_upto_region 16 with (fail)
            obtain ⟨Tb, hTb⟩ : ∃ X, X = v26.heap.size := ⟨_, rfl⟩
            rw [← hTb]
            refine name_w (fun W => Pk W w.heap.size b g ⟨0, gn2, os2, wn2⟩ f2 ∧ ActB W Ab kd gn2 0 (.slice A' po.length c') ∧ Cel W Wb 1 gn ∧ Cel W Nb 0 gn2 ∧ Cel W Tb 0 gn2 ∧ Below w.heap.size w W) ?_ ?_
            · have bb := below_alloc v26 (.cells #[.int .i64 0, .int .i64 gn2] 34)
              rw [hTb]
              exact ⟨HP26.out.under bb, HCA26.out.below bb, HCW26.out.below bb, HCN26.out.below bb, Cel.new _ _ _, HB26.out.trans (bb.mono HB26.out.size)⟩
            clear kA1 kA2
            have LET : Hid (w.heap.size ≤ Tb) := Lib.hid (by rw [hTb]; exact HB26.out.size)
            have NEAT : Hid (Ab ≠ Tb) := Lib.hid (by rw [hTb]; exact Nat.ne_of_lt HCA26.out.lt)
            have NETA : Hid (Tb ≠ Ab) := Lib.hid (Ne.symm NEAT.out)
            have NEWT : Hid (Wb ≠ Tb) := Lib.hid (by rw [hTb]; exact Nat.ne_of_lt HCW26.out.lt)
            have NETW : Hid (Tb ≠ Wb) := Lib.hid (Ne.symm NEWT.out)
            have NENT : Hid (Nb ≠ Tb) := Lib.hid (by rw [hTb]; exact Nat.ne_of_lt HCN26.out.lt)
            have NETN : Hid (Tb ≠ Nb) := Lib.hid (Ne.symm NENT.out)
            clear hTb HP26 HB26 HCA26 HCW26 HCN26
            rintro v27 ⟨h0, h1, h2, h3, h4, h5⟩
            have HP27 := Lib.hid h0
            have HCA27 := Lib.hid h1
            have HCW27 := Lib.hid h2
            have HCN27 := Lib.hid h3
            have HCT27 := Lib.hid h4
            have HB27 := Lib.hid h5
            clear h0 h1 h2 h3 h4 h5
            have kN0 := HCN27.out.c0
            have kN1 := HCN27.out.c1
            have kW0 := HCW27.out.c0
            have kW1 := HCW27.out.c1
            have kT0 := HCT27.out.c0
            have kT1 := HCT27.out.c1
            go_wp2
            go_roundg (xs.length - (k + 1))
            case measure => have := HG.out; have := HLT.out; omega
            case rel => exact ⟨k + 1, 0, gn2, wn2, os2, f2, Lib.hid rfl, HLT.out, by go_num, Lib.hid (by simp), HBD1, HP27, HB27⟩
          · skip
            go_wp2_with fail
            refine (pk_cell w.heap.size b g _ _ v24 HP24.out).mono ?_
            rintro e v25 ⟨rfl, hb⟩
            have HP25 := Lib.hid (HP24.out.under hb)
            have HB25 := Lib.hid (HB24.out.trans (hb.mono HB24.out.size))
            have HCA25 := Lib.hid (HCA24.out.below hb)
            have HCW25 := Lib.hid (HCW24.out.below hb)
            clear hb HP24 HB24 HCA24 HCW24
            go_upto_region 15 with (fail)
            obtain ⟨Nb, hNb⟩ : ∃ X, X = v25.heap.size := ⟨_, rfl⟩
            rw [← hNb]
            refine name_w (fun W => Pk W w.heap.size b g ⟨0, gn2, os2, wn2⟩ f2 ∧ ActB W Ab kd gn2 0 (.slice A' po.length c') ∧ Cel W Wb 1 gn ∧ Cel W Nb 0 gn2 ∧ Below w.heap.size w W) ?_ ?_
            · have bb := below_alloc v25 (.cells #[.int .i64 0, .int .i64 gn2] 34)
              rw [hNb]
              exact ⟨HP25.out.under bb, HCA25.out.below bb, HCW25.out.below bb, Cel.new _ _ _, HB25.out.trans (bb.mono HB25.out.size)⟩
            have LEN : Hid (w.heap.size ≤ Nb) := Lib.hid (by rw [hNb]; exact HB25.out.size)
            have NEAN : Hid (Ab ≠ Nb) := Lib.hid (by rw [hNb]; exact Nat.ne_of_lt HCA25.out.lt)
            have NENA : Hid (Nb ≠ Ab) := Lib.hid (Ne.symm NEAN.out)
            have NEWN : Hid (Wb ≠ Nb) := Lib.hid (by rw [hNb]; exact Nat.ne_of_lt HCW25.out.lt)
            have NENW : Hid (Nb ≠ Wb) := Lib.hid (Ne.symm NEWN.out)
            clear hNb HP25 HB25 HCA25 HCW25
            rintro v26 ⟨h0, h1, h2, h3, h4⟩
            have HP26 := Lib.hid h0
            have HCA26 := Lib.hid h1
            have HCW26 := Lib.hid h2
            have HCN26 := Lib.hid h3
            have HB26 := Lib.hid h4
            clear h0 h1 h2 h3 h4
            have kA1 := HCA26.out.c1
            have kA2 := HCA26.out.c2
            go_upto_region 16 with (fail)
            obtain ⟨Tb, hTb⟩ : ∃ X, X = v26.heap.size := ⟨_, rfl⟩
            rw [← hTb]
            refine name_w (fun W => Pk W w.heap.size b g ⟨0, gn2, os2, wn2⟩ f2 ∧ ActB W Ab kd gn2 0 (.slice A' po.length c') ∧ Cel W Wb 1 gn ∧ Cel W Nb 0 gn2 ∧ Cel W Tb 0 gn2 ∧ Below w.heap.size w W) ?_ ?_
            · have bb := below_alloc v26 (.cells #[.int .i64 0, .int .i64 gn2] 34)
              rw [hTb]
              exact ⟨HP26.out.under bb, HCA26.out.below bb, HCW26.out.below bb, HCN26.out.below bb, Cel.new _ _ _, HB26.out.trans (bb.mono HB26.out.size)⟩
            clear kA1 kA2
            have LET : Hid (w.heap.size ≤ Tb) := Lib.hid (by rw [hTb]; exact HB26.out.size)
            have NEAT : Hid (Ab ≠ Tb) := Lib.hid (by rw [hTb]; exact Nat.ne_of_lt HCA26.out.lt)
            have NETA : Hid (Tb ≠ Ab) := Lib.hid (Ne.symm NEAT.out)
            have NEWT : Hid (Wb ≠ Tb) := Lib.hid (by rw [hTb]; exact Nat.ne_of_lt HCW26.out.lt)
            have NETW : Hid (Tb ≠ Wb) := Lib.hid (Ne.symm NEWT.out)
            have NENT : Hid (Nb ≠ Tb) := Lib.hid (by rw [hTb]; exact Nat.ne_of_lt HCN26.out.lt)
            have NETN : Hid (Tb ≠ Nb) := Lib.hid (Ne.symm NENT.out)
            clear hTb HP26 HB26 HCA26 HCW26 HCN26
            rintro v27 ⟨h0, h1, h2, h3, h4, h5⟩
            have HP27 := Lib.hid h0
            have HCA27 := Lib.hid h1
            have HCW27 := Lib.hid h2
            have HCN27 := Lib.hid h3
            have HCT27 := Lib.hid h4
            have HB27 := Lib.hid h5
            clear h0 h1 h2 h3 h4 h5
            have kN0 := HCN27.out.c0
            have kN1 := HCN27.out.c1
            have kW0 := HCW27.out.c0
            have kW1 := HCW27.out.c1
            have kT0 := HCT27.out.c0
            have kT1 := HCT27.out.c1
            go_wp2
            go_roundg (xs.length - (k + 1))
            case measure => have := HG.out; have := HLT.out; omega
            case rel => exact ⟨k + 1, 0, gn2, wn2, os2, f2, Lib.hid rfl, HLT.out, by go_num, Lib.hid (by simp), HBD1, HP27, HB27⟩
        · skip
          cases et : (tv == 0)
          · skip
            go_wp2_with fail
            refine (pk_cell w.heap.size b g _ _ v24 HP24.out).mono ?_
            rintro e v25 ⟨rfl, hb⟩
            have HP25 := Lib.hid (HP24.out.under hb)
            have HB25 := Lib.hid (HB24.out.trans (hb.mono HB24.out.size))
            have HCA25 := Lib.hid (HCA24.out.below hb)
            have HCW25 := Lib.hid (HCW24.out.below hb)
            clear hb HP24 HB24 HCA24 HCW24
            go_upto_region 15 with (fail)
            obtain ⟨Nb, hNb⟩ : ∃ X, X = v25.heap.size := ⟨_, rfl⟩
            rw [← hNb]
            refine name_w (fun W => Pk W w.heap.size b g ⟨1, gn2, os2, wn2⟩ f2 ∧ ActB W Ab kd gn2 1 (.slice A' po.length c') ∧ Cel W Wb 1 gn ∧ Cel W Nb 1 gn2 ∧ Below w.heap.size w W) ?_ ?_
            · have bb := below_alloc v25 (.cells #[.int .i64 1, .int .i64 gn2] 34)
              rw [hNb]
              exact ⟨HP25.out.under bb, HCA25.out.below bb, HCW25.out.below bb, Cel.new _ _ _, HB25.out.trans (bb.mono HB25.out.size)⟩
            have LEN : Hid (w.heap.size ≤ Nb) := Lib.hid (by rw [hNb]; exact HB25.out.size)
            have NEAN : Hid (Ab ≠ Nb) := Lib.hid (by rw [hNb]; exact Nat.ne_of_lt HCA25.out.lt)
            have NENA : Hid (Nb ≠ Ab) := Lib.hid (Ne.symm NEAN.out)
            have NEWN : Hid (Wb ≠ Nb) := Lib.hid (by rw [hNb]; exact Nat.ne_of_lt HCW25.out.lt)
            have NENW : Hid (Nb ≠ Wb) := Lib.hid (Ne.symm NEWN.out)
            clear hNb HP25 HB25 HCA25 HCW25
            rintro v26 ⟨h0, h1, h2, h3, h4⟩
            have HP26 := Lib.hid h0
            have HCA26 := Lib.hid h1
            have HCW26 := Lib.hid h2
            have HCN26 := Lib.hid h3
            have HB26 := Lib.hid h4
            clear h0 h1 h2 h3 h4
            have kA1 := HCA26.out.c1
            have kA2 := HCA26.out.c2
            go_upto_region 16 with (fail)
            obtain ⟨Tb, hTb⟩ : ∃ X, X = v26.heap.size := ⟨_, rfl⟩
            rw [← hTb]
            refine name_w (fun W => Pk W w.heap.size b g ⟨1, gn2, os2, wn2⟩ f2 ∧ ActB W Ab kd gn2 1 (.slice A' po.length c') ∧ Cel W Wb 1 gn ∧ Cel W Nb 1 gn2 ∧ Cel W Tb 1 gn2 ∧ Below w.heap.size w W) ?_ ?_
            · have bb := below_alloc v26 (.cells #[.int .i64 1, .int .i64 gn2] 34)
              rw [hTb]
              exact ⟨HP26.out.under bb, HCA26.out.below bb, HCW26.out.below bb, HCN26.out.below bb, Cel.new _ _ _, HB26.out.trans (bb.mono HB26.out.size)⟩
            clear kA1 kA2
            have LET : Hid (w.heap.size ≤ Tb) := Lib.hid (by rw [hTb]; exact HB26.out.size)
            have NEAT : Hid (Ab ≠ Tb) := Lib.hid (by rw [hTb]; exact Nat.ne_of_lt HCA26.out.lt)
            have NETA : Hid (Tb ≠ Ab) := Lib.hid (Ne.symm NEAT.out)
            have NEWT : Hid (Wb ≠ Tb) := Lib.hid (by rw [hTb]; exact Nat.ne_of_lt HCW26.out.lt)
            have NETW : Hid (Tb ≠ Wb) := Lib.hid (Ne.symm NEWT.out)
            have NENT : Hid (Nb ≠ Tb) := Lib.hid (by rw [hTb]; exact Nat.ne_of_lt HCN26.out.lt)
            have NETN : Hid (Tb ≠ Nb) := Lib.hid (Ne.symm NENT.out)
            clear hTb HP26 HB26 HCA26 HCW26 HCN26
            rintro v27 ⟨h0, h1, h2, h3, h4, h5⟩
            have HP27 := Lib.hid h0
            have HCA27 := Lib.hid h1
            have HCW27 := Lib.hid h2
            have HCN27 := Lib.hid h3
            have HCT27 := Lib.hid h4
            have HB27 := Lib.hid h5
            clear h0 h1 h2 h3 h4 h5
            have kN0 := HCN27.out.c0
            have kN1 := HCN27.out.c1
            have kW0 := HCW27.out.c0
            have kW1 := HCW27.out.c1
            have kT0 := HCT27.out.c0
            have kT1 := HCT27.out.c1
            go_wp2
            go_roundg (xs.length - (k + 1))
            case measure => have := HG.out; have := HLT.out; omega
            case rel => exact ⟨k + 1, 1, gn2, wn2, os2, f2, Lib.hid rfl, HLT.out, by go_num, Lib.hid (by simp), HBD1, HP27, HB27⟩
          · skip
            go_wp2_with fail
            refine (pk_cell w.heap.size b g _ _ v24 HP24.out).mono ?_
            rintro e v25 ⟨rfl, hb⟩
            have HP25 := Lib.hid (HP24.out.under hb)
            have HB25 := Lib.hid (HB24.out.trans (hb.mono HB24.out.size))
            have HCA25 := Lib.hid (HCA24.out.below hb)
            have HCW25 := Lib.hid (HCW24.out.below hb)
            clear hb HP24 HB24 HCA24 HCW24
            go_upto_region 15 with (fail)
            obtain ⟨Nb, hNb⟩ : ∃ X, X = v25.heap.size := ⟨_, rfl⟩
            rw [← hNb]
            refine name_w (fun W => Pk W w.heap.size b g ⟨1, gn2, os2, wn2⟩ f2 ∧ ActB W Ab kd gn2 1 (.slice A' po.length c') ∧ Cel W Wb 1 gn ∧ Cel W Nb 1 gn2 ∧ Below w.heap.size w W) ?_ ?_
            · have bb := below_alloc v25 (.cells #[.int .i64 1, .int .i64 gn2] 34)
              rw [hNb]
              exact ⟨HP25.out.under bb, HCA25.out.below bb, HCW25.out.below bb, Cel.new _ _ _, HB25.out.trans (bb.mono HB25.out.size)⟩
            have LEN : Hid (w.heap.size ≤ Nb) := Lib.hid (by rw [hNb]; exact HB25.out.size)
            have NEAN : Hid (Ab ≠ Nb) := Lib.hid (by rw [hNb]; exact Nat.ne_of_lt HCA25.out.lt)
            have NENA : Hid (Nb ≠ Ab) := Lib.hid (Ne.symm NEAN.out)
            have NEWN : Hid (Wb ≠ Nb) := Lib.hid (by rw [hNb]; exact Nat.ne_of_lt HCW25.out.lt)
            have NENW : Hid (Nb ≠ Wb) := Lib.hid (Ne.symm NEWN.out)
            clear hNb HP25 HB25 HCA25 HCW25
            rintro v26 ⟨h0, h1, h2, h3, h4⟩
            have HP26 := Lib.hid h0
            have HCA26 := Lib.hid h1
            have HCW26 := Lib.hid h2
            have HCN26 := Lib.hid h3
            have HB26 := Lib.hid h4
            clear h0 h1 h2 h3 h4
            have kA1 := HCA26.out.c1
            have kA2 := HCA26.out.c2
            go_upto_region 16 with (fail)
            obtain ⟨Tb, hTb⟩ : ∃ X, X = v26.heap.size := ⟨_, rfl⟩
            rw [← hTb]
            refine name_w (fun W => Pk W w.heap.size b g ⟨1, gn2, os2, wn2⟩ f2 ∧ ActB W Ab kd gn2 1 (.slice A' po.length c') ∧ Cel W Wb 1 gn ∧ Cel W Nb 1 gn2 ∧ Cel W Tb 1 gn2 ∧ Below w.heap.size w W) ?_ ?_
            · have bb := below_alloc v26 (.cells #[.int .i64 1, .int .i64 gn2] 34)
              rw [hTb]
              exact ⟨HP26.out.under bb, HCA26.out.below bb, HCW26.out.below bb, HCN26.out.below bb, Cel.new _ _ _, HB26.out.trans (bb.mono HB26.out.size)⟩
            clear kA1 kA2
            have LET : Hid (w.heap.size ≤ Tb) := Lib.hid (by rw [hTb]; exact HB26.out.size)
            have NEAT : Hid (Ab ≠ Tb) := Lib.hid (by rw [hTb]; exact Nat.ne_of_lt HCA26.out.lt)
            have NETA : Hid (Tb ≠ Ab) := Lib.hid (Ne.symm NEAT.out)
            have NEWT : Hid (Wb ≠ Tb) := Lib.hid (by rw [hTb]; exact Nat.ne_of_lt HCW26.out.lt)
            have NETW : Hid (Tb ≠ Wb) := Lib.hid (Ne.symm NEWT.out)
            have NENT : Hid (Nb ≠ Tb) := Lib.hid (by rw [hTb]; exact Nat.ne_of_lt HCN26.out.lt)
            have NETN : Hid (Tb ≠ Nb) := Lib.hid (Ne.symm NENT.out)
            clear hTb HP26 HB26 HCA26 HCW26 HCN26
            rintro v27 ⟨h0, h1, h2, h3, h4, h5⟩
            have HP27 := Lib.hid h0
            have HCA27 := Lib.hid h1
            have HCW27 := Lib.hid h2
            have HCN27 := Lib.hid h3
            have HCT27 := Lib.hid h4
            have HB27 := Lib.hid h5
            clear h0 h1 h2 h3 h4 h5
            have kN0 := HCN27.out.c0
            have kN1 := HCN27.out.c1
            have kW0 := HCW27.out.c0
            have kW1 := HCW27.out.c1
            have kT0 := HCT27.out.c0
            have kT1 := HCT27.out.c1
            go_wp2
            go_roundg (xs.length - (k + 1))
            case measure => have := HG.out; have := HLT.out; omega
            case rel => exact ⟨k + 1, 1, gn2, wn2, os2, f2, Lib.hid rfl, HLT.out, by go_num, Lib.hid (by simp), HBD1, HP27, HB27⟩

theorem walk (v : Value) (xs : List Ac) (w : World) (hx : ActsI w v xs) : Calls Try.prog 4 #[v] w (Holds w) := by
  obtain ⟨A, c, rfl⟩ := hx.shape
  cases hg : greatB xs with
  | true => exact walk_out A c xs w hx hg
  | false =>
    obtain ⟨h1, h2⟩ := great_no hg
    exact walk_in A c xs w hx h1 h2 hg

/-! From the walk to the given row. -/
set_option maxRecDepth 100000 in
theorem lifted (os : Os) (started : os.Started) (H : Type) (enc : TypeId × Value → H) :
    ReturnsInHanded {} Try.checked os 4 .any (Rows.routerFencesSpec.pre6 enc Try.prog Try.f4 Rows.routerFencesRow.domain false) (Rows.routerFencesSpec.post enc Try.prog Try.f4 false true false false) := by
  refine returnsInHanded_of_change (C := Try.checked) t_own started (by kernel_rfl) Try.func4
    (ChangeSpec.witness6 (enc := enc) (C := Try.checked) false ⟨#[], #[.slice none 0 0], []⟩ 8 (by kernel_rfl) (by kernel_rfl) (by kernel_rfl) (by kernel_rfl)) ?_
  intro W base args ds gs before hval0 hW hcnd _
  have hval : ∀ (j : Nat) t v, Try.f4.params[j]? = some t → args[j]? = some v → Value.okWide Try.prog W .any base t v := hval0
  have hW' := hW
  obtain ⟨p, q, hA0, hV, rfl, hfz, hnd⟩ := hW
  have hA : DataW.TrodAll enc Try.prog W 0 (fun _ => true) true Try.f4.params.toList args.toList ds p := hA0
  rw [Try.params4] at hA hval
  obtain ⟨v0, vs0, d0, ds0, p0, q0, hargs, rfl, rfl, h0, r0⟩ := trodAll_cons hA
  obtain ⟨rfl, rfl, rfl⟩ := trodAll_nil r0
  obtain rfl : args = #[v0] := by cases args; simp_all
  obtain ⟨xs, hx⟩ := open_acts (hval 0 22 v0 rfl rfl) h0
  refine (walk v0 xs W hx).mono fun e W' ⟨he, hb⟩ => ?_
  subst he
  exact ⟨_, rfl, post_of_holds hW' (by kernel_rfl) rfl (by rw [Try.params4]; exact fun t ht => params_ok t (by simp at ht; rcases ht with rfl <;> simp)) ⟨rfl, rfl, rfl⟩ hb⟩

/-- The given statement. -/
theorem proved : Rows.RouterFencesSaid :=
  OpenClaim.holds_of_wide 4 Try.f4 rfl rfl rfl rfl rfl rfl rfl ⟨rfl, rfl, rfl, rfl, rfl⟩ rfl rfl rfl rfl rfl (by kernel_rfl) Try.func4 (by kernel_rfl)
    (of_decide_eq_true (by kernel_rfl)) (by unfold Func.isWrapper; first | (rw [if_pos (by decide +kernel)]; kernel_rfl) | (rw [if_neg (by decide +kernel)]; exact ⟨rfl, rfl⟩))
    (fun os started H enc _ => lifted os started H enc)
#print axioms proved
end Go.Proofs.Ytdhonbgladenpaa.routerFences
