/-
  switchback's RouterOnce: of calls of one route, whatever comes of them, one at most writes; and of any calls as many write as the route has changed. For every input the law returns true, and each argument reads afterwards as it read before. No condition beside the row's own.
-/
import Derived.Test.YtdhonbgladenpaaLaw
namespace Go.Proofs.Ytdhonbgladenpaa.routerOnce
open Go.Proofs.Ytdhonbgladenpaa
open Go.ChangeShapes Go.WideShapes Go.ChangeAt Go.RowKit
set_option linter.unusedVariables false

theorem cel_set0 {W : World} {k : Nat} {sl gn : Int} (h : Cel W k sl gn) (a : Int) : (W.setCell ⟨k, 0, none⟩ (.int .i64 a)).heap[k]? = some (.cells #[.int .i64 a, .int .i64 gn] 34 (0, 0)) := heap_setCell_same _ _ 0 _ 34 (.int .i64 a) h
theorem cel_beside {W : World} {k j : Nat} {sl gn : Int} {u v : Value} (h : Cel W k sl gn) (hn : k ≠ j) : Cel ((W.setCell ⟨j, 0, none⟩ u).setCell ⟨j, 1, none⟩ v) k sl gn :=
  ((Below.heap_setCell _ _ _ _ hn).trans (Below.heap_setCell _ _ _ _ hn)).trans h
theorem below_set2 {B : Nat} {a W : World} {j : Nat} {u v : Value} (h : Below B a W) (hj : B ≤ j) : Below B a ((W.setCell ⟨j, 0, none⟩ u).setCell ⟨j, 1, none⟩ v) :=
  ⟨h.os, h.tape, h.output, by simpa [World.setCell] using h.size, fun k hk => ((Below.heap_setCell _ _ _ _ (by show k ≠ j; omega)).trans (Below.heap_setCell _ _ _ _ (by show k ≠ j; omega))).trans (h.block k hk)⟩

set_option maxRecDepth 100000 in
set_option maxHeartbeats 4000000 in
theorem walk_out0 (A : Option Addr) (c : Nat) (xs : List Int) (A2 : Option Addr) (c2 : Nat) (cs : List (Int × Int)) (w : World) (h : 100 < xs.length) : Calls Try.prog 7 #[.slice A xs.length c, .slice A2 cs.length c2] w (Holds w) := by
  have e1 : decide (100 < (xs.length : Int)) = true := by simp; omega
  clear h
  go_enter Try.func7, Try.ntmps7
  go_wp2_with fail
  refine (new_any _).mono ?_
  rintro e w1 ⟨g, rfl, hg, hz, hb⟩
  have HB1 := Lib.hid hb
  have HZ1 : Hid (Fz w1 g 53 (F 0)) := Lib.hid hz
  have HG := Lib.hid (Nat.le_of_eq hg)
  clear hz hb hg
  go_wp2_with fail
  refine (awake_any _).mono ?_
  rintro e w2 ⟨rfl, hb⟩
  have HB2 := Lib.hid (HB1.out.trans (hb.mono HB1.out.size))
  have HZ2 := Lib.hid (HZ1.out.under hb HZ1.out.lt)
  clear hb HB1 HZ1
  clear HZ2 HG
  go_wp2_with fail
  refine (awake_any _).mono ?_
  rintro e w3 ⟨rfl, hb⟩
  have HB3 := Lib.hid (HB2.out.trans (hb.mono HB2.out.size))
  clear hb HB2
  go_wp2
  go_ret
  exact ⟨rfl, HB3.out⟩

set_option maxRecDepth 100000 in
set_option maxHeartbeats 4000000 in
theorem walk_out1 (A : Option Addr) (c : Nat) (xs : List Int) (A2 : Option Addr) (c2 : Nat) (cs : List (Int × Int)) (w : World) (h : ¬ 100 < xs.length) (h2 : 100 < cs.length) : Calls Try.prog 7 #[.slice A xs.length c, .slice A2 cs.length c2] w (Holds w) := by
  have e1 : decide (100 < (xs.length : Int)) = false := by simp; omega
  have e2 : decide (100 < (cs.length : Int)) = true := by simp; omega
  clear h h2
  go_enter Try.func7, Try.ntmps7
  go_wp2_with fail
  refine (new_any _).mono ?_
  rintro e w1 ⟨g, rfl, hg, hz, hb⟩
  have HB1 := Lib.hid hb
  have HZ1 : Hid (Fz w1 g 53 (F 0)) := Lib.hid hz
  have HG := Lib.hid (Nat.le_of_eq hg)
  clear hz hb hg
  go_wp2_with fail
  refine (awake_any _).mono ?_
  rintro e w2 ⟨rfl, hb⟩
  have HB2 := Lib.hid (HB1.out.trans (hb.mono HB1.out.size))
  have HZ2 := Lib.hid (HZ1.out.under hb HZ1.out.lt)
  clear hb HB1 HZ1
  clear HZ2 HG
  go_wp2_with fail
  refine (awake_any _).mono ?_
  rintro e w3 ⟨rfl, hb⟩
  have HB3 := Lib.hid (HB2.out.trans (hb.mono HB2.out.size))
  clear hb HB2
  go_wp2
  go_ret
  exact ⟨rfl, HB3.out⟩

set_option maxRecDepth 100000 in
set_option maxHeartbeats 4000000 in
theorem walk_in (A : Option Addr) (c : Nat) (xs : List Int) (A2 : Option Addr) (c2 : Nat) (cs : List (Int × Int)) (w : World) (hi : IntsI w (.slice A xs.length c) xs) (hc : CellsI w (.slice A2 cs.length c2) cs) (h : xs.length ≤ 100) (h2 : cs.length ≤ 100) : Calls Try.prog 7 #[.slice A xs.length c, .slice A2 cs.length c2] w (Holds w) := by
  have e1 : decide (100 < (xs.length : Int)) = false := by simp; omega
  have e2 : decide (100 < (cs.length : Int)) = false := by simp; omega
  have HI := Lib.hid hi
  have HCI := Lib.hid hc
  have q34 := eq34
  have bs0 := build0
  clear hi hc
  go_enter Try.func7, Try.ntmps7
  go_wp2_with fail
  refine (new_any _).mono ?_
  rintro e w1 ⟨g, rfl, hg, hz, hb⟩
  have HB1 := Lib.hid hb
  have HZ1 : Hid (Fz w1 g 53 (F 0)) := Lib.hid hz
  have HG := Lib.hid (Nat.le_of_eq hg)
  clear hz hb hg
  go_wp2_with fail
  refine (awake_any _).mono ?_
  rintro e w2 ⟨rfl, hb⟩
  have HB2 := Lib.hid (HB1.out.trans (hb.mono HB1.out.size))
  have HZ2 := Lib.hid (HZ1.out.under hb HZ1.out.lt)
  clear hb HB1 HZ1
  go_wp2_with fail
  refine (pk_new w.heap.size g _ w2 HZ2.out HG.out).mono ?_
  rintro e w3 ⟨b, rfl, hp, hb⟩
  have HP3 := Lib.hid hp
  have HB3 := Lib.hid (HB2.out.trans (hb.mono HB2.out.size))
  clear hp hb HB2 HZ2 HG
  obtain ⟨A1, n1, c1, W1, ea, hi1, hb1⟩ := copy_ints (HI.out.under HB3.out (Nat.le_refl _)) (by omega)
  have E1 := Lib.hid ea
  have HI1 := Lib.hid hi1
  have HP4 := Lib.hid (HP3.out.under hb1)
  have HB4 := Lib.hid (HB3.out.trans (hb1.mono HB3.out.size))
  clear ea hi1 hb1 HP3 HB3
  go_wp2_with (first | (at_builtin; refine wpList_append_is rfl (.tmp 35) (.tmp 36) 35 rfl rfl rfl E1.out ?_))
  refine (pk_script w.heap.size b g _ _ _ xs W1 HP4.out HI1.out (by simp; omega)).mono ?_
  rintro e w5 ⟨rfl, hp, ht⟩
  have HP5 : Hid (Pk w5 w.heap.size b g ⟨0, 0, xs, 0⟩ (F 0)) := Lib.hid hp
  have HB5 := Lib.hid (ht.below HB4.out)
  clear hp ht HP4 HB4
  clear E1 HI1 bs0 HI
  go_wp2_with fail
  refine (pk_cell w.heap.size b g _ _ w5 HP5.out).mono ?_
  rintro e w6 ⟨rfl, hb⟩
  have HP6 := Lib.hid (HP5.out.under hb)
  have HB6 := Lib.hid (HB5.out.trans (hb.mono HB5.out.size))
  clear hb HP5 HB5
  go_upto_region 9 with (fail)
  obtain ⟨Lb, hLb⟩ : ∃ X, X = w6.heap.size := ⟨_, rfl⟩
  rw [← hLb]
  refine name_w (fun W => Pk W w.heap.size b g ⟨0, 0, xs, 0⟩ (F 0) ∧ Cel W Lb 0 0 ∧ Below w.heap.size w W) ?_ ?_
  · have bb := below_alloc w6 (.cells #[.int .i64 0, .int .i64 0] 34)
    rw [hLb]
    exact ⟨HP6.out.under bb, Cel.new _ _ _, HB6.out.trans (bb.mono HB6.out.size)⟩
  have LEL : Hid (w.heap.size ≤ Lb) := Lib.hid (by rw [hLb]; exact HB6.out.size)
  clear hLb HP6 HB6
  rintro w7 ⟨h0, h1, h2⟩
  have HP7 := Lib.hid h0
  have HCL7 := Lib.hid h1
  have HB7 := Lib.hid h2
  clear h0 h1 h2
  go_wp2
  go_loopg [7, 43] cs.length (fun gg nv iv wr => ∃ (k : Nat) (sl gn wn : Int) (os : List Int) (f : Fu), Hid (gg = cs.length - k) ∧ k ≤ cs.length ∧ nv = .int .i64 wn ∧ iv = .int .i64 (k : Int) ∧ 0 ≤ wn ∧ wn ≤ 1000 ∧ Hid (Bd (2 * k + 1) ⟨sl, gn, os, wn⟩ f) ∧ Hid (Pk wr w.heap.size b g ⟨sl, gn, os, wn⟩ f) ∧ Hid (Cel wr Lb sl gn) ∧ Hid (Below w.heap.size w wr))
  case atStart => exact ⟨0, 0, 0, 0, xs, F 0, Lib.hid rfl, Nat.zero_le _, rfl, rfl, by simp, by simp, Lib.hid (by have h0 := bd0.script xs h; exact h0), HP7, HCL7, HB7⟩
  case round =>
    obtain ⟨k, sl, gn, wn, os, f, HG, hk, rfl, rfl, hw1, hw2, HBD, HP20, HCL20, HB20⟩ := hrel
    clear HP7 HCL7 HB7
    have hk9 : k ≤ 100 := by omega
    by_cases hlt : k < cs.length
    case neg =>
      have el : decide ((k : Int) < (cs.length : Int)) = false := by simpa using hlt
      have en : decide (k < cs.length) = false := decide_eq_false hlt
      go_wp2
      go_ret
      exact ⟨rfl, HB20.out⟩
    obtain ⟨b2, off, rfl, hb2, x0, x1⟩ := HCI.out.kth HB20.out hlt
    obtain ⟨p0, hp0⟩ : ∃ x, x = cs[k].1 := ⟨_, rfl⟩
    obtain ⟨p1, hp1⟩ : ∃ x, x = cs[k].2 := ⟨_, rfl⟩
    rw [← hp0] at x0
    rw [← hp1] at x1
    have HLT := Lib.hid hlt
    have el : decide ((k : Int) < (cs.length : Int)) = true := by simpa using hlt
    have en : decide (k < cs.length) = true := decide_eq_true hlt
    clear hp0 hp1 hlt hb2
    go_upto_region 12 with (fail)
    obtain ⟨Cb, hCb⟩ : ∃ X, X = wr.heap.size := ⟨_, rfl⟩
    rw [← hCb]
    refine name_w (fun W => Pk W w.heap.size b g ⟨sl, gn, os, wn⟩ f ∧ Cel W Lb sl gn ∧ Cel W Cb p0 p1 ∧ Below w.heap.size w W) ?_ ?_
    · have bb := below_alloc wr (.cells #[.int .i64 p0, .int .i64 p1] 34)
      rw [hCb]
      exact ⟨HP20.out.under bb, HCL20.out.below bb, Cel.new _ _ _, HB20.out.trans (bb.mono HB20.out.size)⟩
    clear x0 x1
    have LEC : Hid (w.heap.size ≤ Cb) := Lib.hid (by rw [hCb]; exact HB20.out.size)
    have NELC : Hid (Lb ≠ Cb) := Lib.hid (by rw [hCb]; exact Nat.ne_of_lt HCL20.out.lt)
    have NECL : Hid (Cb ≠ Lb) := Lib.hid (Ne.symm NELC.out)
    clear hCb HP20 HB20 HCL20
    rintro v21 ⟨h0, h1, h2, h3⟩
    have HP21 := Lib.hid h0
    have HCL21 := Lib.hid h1
    have HCC21 := Lib.hid h2
    have HB21 := Lib.hid h3
    clear h0 h1 h2 h3
    clear el en
    have kC0 := HCC21.out.c0
    have kC1 := HCC21.out.c1
    go_wp2_with fail
    refine (pk_call w.heap.size b g ⟨sl, gn, os, wn⟩ f p1 p0 v21 HP21.out (HBD.out.fine (by omega)) (HBD.out.wr (by omega))).mono ?_
    rintro e v22 ⟨rfl, hp, ht⟩
    have HP22 : Hid (Pk v22 w.heap.size b g (leftC ⟨sl, gn, os, wn⟩ f p1 p0) (fuseC f p1 p0)) := Lib.hid hp
    have HB22 := Lib.hid (ht.below HB21.out)
    have HCL22 := Lib.hid (HCL21.out.turn ht)
    have HCC22 := Lib.hid (HCC21.out.turn ht)
    clear kC0 kC1
    clear hp ht HP21 HB21 HCL21 HCC21
    have kC0 := HCC22.out.c0
    have kC1 := HCC22.out.c1
    have HBD1 := Lib.hid (HBD.out.call p1 p0)
    go_wp2_with fail
    refine (pk_call w.heap.size b g _ _ p1 p0 v22 HP22.out (HBD1.out.fine (by omega)) (HBD1.out.wr (by omega))).mono ?_
    rintro e v23 ⟨rfl, hp, ht⟩
    have HP23 : Hid (Pk v23 w.heap.size b g (leftC (leftC ⟨sl, gn, os, wn⟩ f p1 p0) (fuseC f p1 p0) p1 p0) (fuseC (fuseC f p1 p0) p1 p0)) := Lib.hid hp
    have HB23 := Lib.hid (ht.below HB22.out)
    have HCL23 := Lib.hid (HCL22.out.turn ht)
    have HCC23 := Lib.hid (HCC22.out.turn ht)
    clear kC0 kC1
    clear hp ht HP22 HB22 HCL22 HCC22
    have HBD2 : Hid (Bd (2 * (k + 1) + 1) (leftC (leftC ⟨sl, gn, os, wn⟩ f p1 p0) (fuseC f p1 p0) p1 p0) (fuseC (fuseC f p1 p0) p1 p0)) := Lib.hid ((HBD1.out.call p1 p0).mono (by omega))
    have HTC := Lib.hid (two_calls ⟨sl, gn, os, wn⟩ f p1 p0)
    obtain ⟨s2, hs2⟩ : ∃ x, x = leftC (leftC ⟨sl, gn, os, wn⟩ f p1 p0) (fuseC f p1 p0) p1 p0 := ⟨_, rfl⟩
    obtain ⟨f2, hf2⟩ : ∃ x, x = fuseC (fuseC f p1 p0) p1 p0 := ⟨_, rfl⟩
    rw [← hs2, ← hf2] at HP23 HBD2
    rw [← hs2] at HTC
    clear hs2 hf2 HBD HBD1
    obtain ⟨sl2, gn2, os2, wn2⟩ := s2
    have htc := HTC.out
    simp only at htc
    clear HTC
    rcases htc with ⟨rfl, rfl, rfl⟩ | ⟨hgt, rfl⟩
    · skip
      go_wp2_with fail
      refine (pk_cell w.heap.size b g _ _ v23 HP23.out).mono ?_
      rintro e v24 ⟨rfl, hb⟩
      have HP24 := Lib.hid (HP23.out.under hb)
      have HB24 := Lib.hid (HB23.out.trans (hb.mono HB23.out.size))
      have HCL24 := Lib.hid (HCL23.out.below hb)
      have HCC24 := Lib.hid (HCC23.out.below hb)
      clear hb HP23 HB23 HCL23 HCC23
      go_upto_region 15 with (fail)
      obtain ⟨Nb, hNb⟩ : ∃ X, X = v24.heap.size := ⟨_, rfl⟩
      rw [← hNb]
      refine name_w (fun W => Pk W w.heap.size b g ⟨sl2, gn2, os2, wn2⟩ f2 ∧ Cel W Lb sl2 gn2 ∧ Cel W Cb p0 p1 ∧ Cel W Nb sl2 gn2 ∧ Below w.heap.size w W) ?_ ?_
      · have bb := below_alloc v24 (.cells #[.int .i64 sl2, .int .i64 gn2] 34)
        rw [hNb]
        exact ⟨HP24.out.under bb, HCL24.out.below bb, HCC24.out.below bb, Cel.new _ _ _, HB24.out.trans (bb.mono HB24.out.size)⟩
      have LEN : Hid (w.heap.size ≤ Nb) := Lib.hid (by rw [hNb]; exact HB24.out.size)
      have NELN : Hid (Lb ≠ Nb) := Lib.hid (by rw [hNb]; exact Nat.ne_of_lt HCL24.out.lt)
      have NENL : Hid (Nb ≠ Lb) := Lib.hid (Ne.symm NELN.out)
      have NECN : Hid (Cb ≠ Nb) := Lib.hid (by rw [hNb]; exact Nat.ne_of_lt HCC24.out.lt)
      have NENC : Hid (Nb ≠ Cb) := Lib.hid (Ne.symm NECN.out)
      clear hNb HP24 HB24 HCL24 HCC24
      rintro v25 ⟨h0, h1, h2, h3, h4⟩
      have HP25 := Lib.hid h0
      have HCL25 := Lib.hid h1
      have HCC25 := Lib.hid h2
      have HCN25 := Lib.hid h3
      have HB25 := Lib.hid h4
      clear h0 h1 h2 h3 h4
      have kN0 := HCN25.out.c0
      have kN1 := HCN25.out.c1
      have kL0 := HCL25.out.c0
      have kL1 := HCL25.out.c1
      go_wp2_with fail
      refine (pk_writes w.heap.size b g _ _ v25 HP25.out).mono ?_
      rintro e u ⟨rfl, rfl⟩
      go_wp2
      go_roundg (cs.length - (k + 1))
      case measure => have := HG.out; have := HLT.out; omega
      case rel => exact ⟨k + 1, sl2, gn2, wn2, os2, f2, Lib.hid rfl, HLT.out, rfl, by go_num, by omega, by omega, HBD2, HP25, HCL25, HB25⟩
    · skip
      have en2 : (gn2 == gn) = false := by simp; omega
      have hwb : wn + 1 ≤ 1000 := by have h1 := HBD2.out.writes; simp only at h1; omega
      clear hgt
      go_wp2_with fail
      refine (pk_cell w.heap.size b g _ _ v23 HP23.out).mono ?_
      rintro e v24 ⟨rfl, hb⟩
      have HP24 := Lib.hid (HP23.out.under hb)
      have HB24 := Lib.hid (HB23.out.trans (hb.mono HB23.out.size))
      have HCL24 := Lib.hid (HCL23.out.below hb)
      have HCC24 := Lib.hid (HCC23.out.below hb)
      clear hb HP23 HB23 HCL23 HCC23
      go_upto_region 15 with (fail)
      obtain ⟨Nb, hNb⟩ : ∃ X, X = v24.heap.size := ⟨_, rfl⟩
      rw [← hNb]
      refine name_w (fun W => Pk W w.heap.size b g ⟨sl2, gn2, os2, (wn + 1)⟩ f2 ∧ Cel W Lb sl gn ∧ Cel W Cb p0 p1 ∧ Cel W Nb sl2 gn2 ∧ Below w.heap.size w W) ?_ ?_
      · have bb := below_alloc v24 (.cells #[.int .i64 sl2, .int .i64 gn2] 34)
        rw [hNb]
        exact ⟨HP24.out.under bb, HCL24.out.below bb, HCC24.out.below bb, Cel.new _ _ _, HB24.out.trans (bb.mono HB24.out.size)⟩
      have LEN : Hid (w.heap.size ≤ Nb) := Lib.hid (by rw [hNb]; exact HB24.out.size)
      have NELN : Hid (Lb ≠ Nb) := Lib.hid (by rw [hNb]; exact Nat.ne_of_lt HCL24.out.lt)
      have NENL : Hid (Nb ≠ Lb) := Lib.hid (Ne.symm NELN.out)
      have NECN : Hid (Cb ≠ Nb) := Lib.hid (by rw [hNb]; exact Nat.ne_of_lt HCC24.out.lt)
      have NENC : Hid (Nb ≠ Cb) := Lib.hid (Ne.symm NECN.out)
      clear hNb HP24 HB24 HCL24 HCC24
      rintro v25 ⟨h0, h1, h2, h3, h4⟩
      have HP25 := Lib.hid h0
      have HCL25 := Lib.hid h1
      have HCC25 := Lib.hid h2
      have HCN25 := Lib.hid h3
      have HB25 := Lib.hid h4
      clear h0 h1 h2 h3 h4
      have kN0 := HCN25.out.c0
      have kN1 := HCN25.out.c1
      have kL0 := HCL25.out.c0
      have kL1 := HCL25.out.c1
      have q0 := HCL25.out.fr (i := 0)
      have q1 := HCL25.out.fr (i := 1)
      go_upto_region 18 with (fail)
      refine name_w (fun W => Pk W w.heap.size b g ⟨sl2, gn2, os2, (wn + 1)⟩ f2 ∧ Cel W Lb sl2 gn2 ∧ Cel W Cb p0 p1 ∧ Cel W Nb sl2 gn2 ∧ Below w.heap.size w W) ?_ ?_
      · exact ⟨(HP25.out.set HCL25.out (by decide) (by decide) (by decide)).set (cel_set0 HCL25.out _) (by decide) (by decide) (by decide), HCL25.out.set _ _, cel_beside HCC25.out NECL.out, cel_beside HCN25.out NENL.out, below_set2 HB25.out LEL.out⟩
      clear kN0 kN1 kL0 kL1 q0 q1
      clear HP25 HB25 HCL25 HCC25 HCN25
      rintro v26 ⟨h0, h1, h2, h3, h4⟩
      have HP26 := Lib.hid h0
      have HCL26 := Lib.hid h1
      have HCC26 := Lib.hid h2
      have HCN26 := Lib.hid h3
      have HB26 := Lib.hid h4
      clear h0 h1 h2 h3 h4
      go_wp2_with fail
      refine (pk_writes w.heap.size b g _ _ v26 HP26.out).mono ?_
      rintro e u ⟨rfl, rfl⟩
      go_wp2
      go_roundg (cs.length - (k + 1))
      case measure => have := HG.out; have := HLT.out; omega
      case rel => exact ⟨k + 1, sl2, gn2, (wn + 1), os2, f2, Lib.hid rfl, HLT.out, rfl, by go_num, by omega, by omega, HBD2, HP26, HCL26, HB26⟩

theorem walk (v u : Value) (xs : List Int) (cs : List (Int × Int)) (w : World) (hi : IntsI w v xs) (hc : CellsI w u cs) : Calls Try.prog 7 #[v, u] w (Holds w) := by
  obtain ⟨A, c, rfl⟩ := hi.shape
  obtain ⟨A2, c2, rfl⟩ := hc.shape
  by_cases h : 100 < xs.length
  · exact walk_out0 A c xs A2 c2 cs w h
  by_cases h2 : 100 < cs.length
  · exact walk_out1 A c xs A2 c2 cs w h h2
  exact walk_in A c xs A2 c2 cs w hi hc (by omega) (by omega)

/-! From the walk to the given row. -/
set_option maxRecDepth 100000 in
theorem lifted (os : Os) (started : os.Started) (H : Type) (enc : TypeId × Value → H) :
    ReturnsInHanded {} Try.checked os 7 .any (Rows.routerOnceSpec.pre6 enc Try.prog Try.f7 Rows.routerOnceRow.domain false) (Rows.routerOnceSpec.post enc Try.prog Try.f7 false true false false) := by
  refine returnsInHanded_of_change (C := Try.checked) t_own started (by kernel_rfl) Try.func7
    (ChangeSpec.witness6 (enc := enc) (C := Try.checked) false ⟨#[], #[.slice none 0 0, .slice none 0 0], []⟩ 8 (by kernel_rfl) (by kernel_rfl) (by kernel_rfl) (by kernel_rfl)) ?_
  intro W base args ds gs before hval0 hW hcnd _
  have hval : ∀ (j : Nat) t v, Try.f7.params[j]? = some t → args[j]? = some v → Value.okWide Try.prog W .any base t v := hval0
  have hW' := hW
  obtain ⟨p, q, hA0, hV, rfl, hfz, hnd⟩ := hW
  have hA : DataW.TrodAll enc Try.prog W 0 (fun _ => true) true Try.f7.params.toList args.toList ds p := hA0
  rw [Try.params7] at hA hval
  obtain ⟨v0, vs0, d0, ds0, p0, q0, hargs, rfl, rfl, h0, r0⟩ := trodAll_cons hA
  obtain ⟨v1, vs1, d1, ds1, p1, q1, rfl, rfl, rfl, h1, r1⟩ := trodAll_cons r0
  obtain ⟨rfl, rfl, rfl⟩ := trodAll_nil r1
  obtain rfl : args = #[v0, v1] := by cases args; simp_all
  obtain ⟨xs, hi, _⟩ := open_ints (hval 0 35 v0 rfl rfl) h0
  obtain ⟨cs, hc⟩ := open_cells (hval 1 50 v1 rfl rfl) h1
  refine (walk v0 v1 xs cs W hi hc).mono fun e W' ⟨he, hb⟩ => ?_
  subst he
  exact ⟨_, rfl, post_of_holds hW' (by kernel_rfl) rfl (by rw [Try.params7]; exact fun t ht => params_ok t (by simp at ht; rcases ht with rfl | rfl <;> simp)) ⟨rfl, rfl, rfl⟩ hb⟩

/-- The given statement. -/
theorem proved : Rows.RouterOnceSaid :=
  OpenClaim.holds_of_wide 7 Try.f7 rfl rfl rfl rfl rfl rfl rfl ⟨rfl, rfl, rfl, rfl, rfl⟩ rfl rfl rfl rfl rfl (by kernel_rfl) Try.func7 (by kernel_rfl)
    (of_decide_eq_true (by kernel_rfl)) (by unfold Func.isWrapper; first | (rw [if_pos (by decide +kernel)]; kernel_rfl) | (rw [if_neg (by decide +kernel)]; exact ⟨rfl, rfl⟩))
    (fun os started H enc _ => lifted os started H enc)
#print axioms proved
end Go.Proofs.Ytdhonbgladenpaa.routerOnce
