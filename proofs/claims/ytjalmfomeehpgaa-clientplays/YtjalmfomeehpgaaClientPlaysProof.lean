/-
  switchback's ClientPlays: in every order of calls, whatever is scripted, the route, what is told, and how many calls there were, are what the document says. For every input the law returns true, and each argument reads afterwards as it read before. No condition beside the row's own.
-/
import Derived.Test.YtjalmfomeehpgaaTwo
import Derived.Deep.RegionHeld3
namespace Go.Proofs.Ytjalmfomeehpgaa.clientPlays
open Go.Proofs.Ytjalmfomeehpgaa
open Go.ChangeShapes Go.WideShapes Go.ChangeAt Go.RowKit
set_option linter.unusedVariables false

def S0 : Ro := ⟨0, 0, [], 0⟩
theorem two_new {B b g gm : Nat} {W3 W4 : World} (hz : Fz W3 g 57 (F 0)) (hz2 : Fz W3 gm 27 (F 0)) (hg : B ≤ g) (hgm : B ≤ gm) (hB : B ≤ W3.heap.size) (hbb : W3.heap.size = b) (hr : RoP W4 b g (.slice none 0 0) S0) (hb : Below W3.heap.size W3 W4) :
    Two (W4.alloc (.cells #[.int .i64 0, .int .i64 0, .slice none 0 0, .int .i64 0, .pointer (some ⟨gm, 0, none⟩)] 36)) B b g W4.heap.size gm S0 (F 0) S0 (F 0) := by
  have ba := below_alloc W4 (.cells #[.int .i64 0, .int .i64 0, .slice none 0 0, .int .i64 0, .pointer (some ⟨gm, 0, none⟩)] 36)
  have h1 : Fz W4 g 57 (F 0) := hz.under hb hz.lt
  have h2 : Fz W4 gm 27 (F 0) := hz2.under hb hz2.lt
  exact ⟨.slice none 0 0, .slice none 0 0, hr.but (ba.block b (lt_of_block hr.row)) (fun k hk => by cases hk), ⟨heap_alloc_new W4 _, ⟨rfl, .inl ⟨rfl, rfl⟩⟩⟩, h1.under ba h1.lt, h2.under ba h2.lt, fun k hk => (by cases hk), fun k hk => (by cases hk), fun k hk => (by cases hk), by omega, hg, by have := hb.size; omega, hgm⟩
theorem pair_begin {w W : World} {b g bm gm : Nat} {kd nm sl gn : Int} {v : Value} {s1 s2 : Ro} {f1 f2 : Fu} (h : Two W w.heap.size b g bm gm s1 f1 s2 f2) (hb : Below w.heap.size w W) : Pair w (W.alloc (.cells #[.int .i64 kd, .int .i64 nm, .int .i64 sl, .int .i64 gn, v] 38)) b g bm gm W.heap.size kd nm sl gn v s1 f1 s2 f2 :=
  ⟨h.keep (below_alloc _ _).block, ActB.new _ _ _ _ _ _, hb.trans ((below_alloc _ _).mono hb.size)⟩

set_option maxRecDepth 100000 in
set_option maxHeartbeats 4000000 in
theorem walk_out (A : Option Addr) (c : Nat) (xs : List Ac) (w : World) (h : 100 < xs.length) : Calls Try.prog 3 #[.slice A xs.length c] w (Holds w) := by
  have n1 : decide (100 < (xs.length : Int)) = true := by simp; omega
  have n2 : decide (100 < xs.length) = true := by simp; omega
  clear h
  go_enter Try.func3, Try.ntmps3
  go_wp2_with fail
  refine (new_any _).mono ?_
  rintro e w1 ⟨g, rfl, hg, hz, hb⟩
  have HB1 := Lib.hid hb
  have HZ1 : Hid (Fz w1 g 57 (F 0)) := Lib.hid hz
  have HG := Lib.hid (Nat.le_of_eq hg)
  clear hz hb hg
  go_upto_region 2 with (fail)
  obtain ⟨gm, hgm⟩ : ∃ X, X = w1.heap.size := ⟨_, rfl⟩
  rw [← hgm]
  refine name_w (fun W => Fz W g 57 (F 0) ∧ Fz W gm 27 (F 0) ∧ Below w.heap.size w W) ?_ ?_
  · have bb := below_alloc w1 (.cells #[.bool false, .int .i64 0, .bool false, .int .i64 0] 27)
    rw [hgm]
    exact ⟨HZ1.out.under bb HZ1.out.lt, Fz.new _ _ _ _ _ _, HB1.out.trans (bb.mono HB1.out.size)⟩
  have HGM : Hid (w.heap.size ≤ gm) := Lib.hid (by rw [hgm]; exact HB1.out.size)
  clear hgm HB1 HZ1
  rintro wx ⟨h1, h2, h3⟩
  have HZ1 := Lib.hid h1
  have HM1 := Lib.hid h2
  have HB1 := Lib.hid h3
  clear h1 h2 h3
  go_wp2_with fail
  refine (awake_any _).mono ?_
  rintro e w3 ⟨rfl, hb⟩
  have HB3 := Lib.hid (HB1.out.trans (hb.mono HB1.out.size))
  have HZ3 := Lib.hid (HZ1.out.under hb HZ1.out.lt)
  have HM3 := Lib.hid (HM1.out.under hb HM1.out.lt)
  clear hb HB1 HZ1 HM1
  clear HZ3 HM3 HG HGM
  go_wp2_with fail
  refine (awake_any _).mono ?_
  rintro e w4 ⟨rfl, hb⟩
  have HB4 := Lib.hid (HB3.out.trans (hb.mono HB3.out.size))
  clear hb
  go_wp2
  go_ret
  exact ⟨rfl, HB4.out⟩

set_option maxRecDepth 100000 in
set_option maxHeartbeats 4000000 in
theorem walk_in (A0 : Option Addr) (c : Nat) (xs : List Ac) (w : World) (hx : ActsI w (.slice A0 xs.length c) xs) (h : xs.length ≤ 100) : Calls Try.prog 3 #[.slice A0 xs.length c] w (Holds w) := by
  have HX := Lib.hid hx
  have q33 := eq34
  have n1 : decide (100 < (xs.length : Int)) = false := by simp; omega
  have n2 : decide (100 < xs.length) = false := by simp; omega
  clear hx
  go_enter Try.func3, Try.ntmps3
  go_wp2_with fail
  refine (new_any _).mono ?_
  rintro e w1 ⟨g, rfl, hg, hz, hb⟩
  have HB1 := Lib.hid hb
  have HZ1 : Hid (Fz w1 g 57 (F 0)) := Lib.hid hz
  have HG := Lib.hid (Nat.le_of_eq hg)
  clear hz hb hg
  go_upto_region 2 with (fail)
  obtain ⟨gm, hgm⟩ : ∃ X, X = w1.heap.size := ⟨_, rfl⟩
  rw [← hgm]
  refine name_w (fun W => Fz W g 57 (F 0) ∧ Fz W gm 27 (F 0) ∧ Below w.heap.size w W) ?_ ?_
  · have bb := below_alloc w1 (.cells #[.bool false, .int .i64 0, .bool false, .int .i64 0] 27)
    rw [hgm]
    exact ⟨HZ1.out.under bb HZ1.out.lt, Fz.new _ _ _ _ _ _, HB1.out.trans (bb.mono HB1.out.size)⟩
  have HGM : Hid (w.heap.size ≤ gm) := Lib.hid (by rw [hgm]; exact HB1.out.size)
  clear hgm HB1 HZ1
  rintro wx ⟨h1, h2, h3⟩
  have HZ1 := Lib.hid h1
  have HM1 := Lib.hid h2
  have HB1 := Lib.hid h3
  clear h1 h2 h3
  go_wp2_with fail
  refine (awake_any _).mono ?_
  rintro e w3 ⟨rfl, hb⟩
  have HB3 := Lib.hid (HB1.out.trans (hb.mono HB1.out.size))
  have HZ3 := Lib.hid (HZ1.out.under hb HZ1.out.lt)
  have HM3 := Lib.hid (HM1.out.under hb HM1.out.lt)
  clear hb HB1 HZ1 HM1
  go_wp2_with fail
  obtain ⟨b, hbb⟩ : ∃ X, X = w3.heap.size := ⟨_, rfl⟩
  refine (pnew_any g w3).mono ?_
  rw [← hbb]
  rintro e w4 ⟨rfl, hr, hb, hsz⟩
  clear hsz n1 n2
  have HR4 := Lib.hid hr
  have HBE := Lib.hid hbb
  have HB4 : Hid (Below w3.heap.size w3 w4) := Lib.hid (by rw [← hbb]; exact hb)
  clear hr hb hbb
  go_upto_region 5 with (fail)
  obtain ⟨bm, hbm⟩ : ∃ X, X = w4.heap.size := ⟨_, rfl⟩
  rw [← hbm]
  refine name_w (fun W => Two W w.heap.size b g bm gm S0 (F 0) S0 (F 0) ∧ Below w.heap.size w W) ?_ ?_
  · rw [hbm]
    have bb := below_alloc w4 (.cells #[.int .i64 0, .int .i64 0, .slice none 0 0, .int .i64 0, .pointer (some ⟨gm, 0, none⟩)] 36)
    have h4 := HB3.out.trans (HB4.out.mono HB3.out.size)
    exact ⟨two_new HZ3.out HM3.out HG.out HGM.out HB3.out.size HBE.out.symm HR4.out HB4.out, h4.trans (bb.mono h4.size)⟩
  clear hbm HB3 HB4 HZ3 HM3 HR4 HBE
  rintro w5 ⟨h1, h2⟩
  have HT5 := Lib.hid h1
  have HB5 := Lib.hid h2
  clear h1 h2
  go_wp2
  go_loopg [37] xs.length (fun gg iv wr => ∃ (k : Nat) (s : Ro) (f1 f2 : Fu), Hid (gg = xs.length - k) ∧ k ≤ xs.length ∧ iv = .int .i64 (k : Int) ∧ Hid (Bd (8 * k) s f1) ∧ Hid (Bd (8 * k) s f2) ∧ Hid (Al f1 f2) ∧ Hid (Two wr w.heap.size b g bm gm s f1 s f2) ∧ Hid (Below w.heap.size w wr))
  case atStart => exact ⟨0, S0, F 0, F 0, Lib.hid rfl, Nat.zero_le _, rfl, Lib.hid bd0, Lib.hid bd0, Lib.hid ⟨rfl, rfl, rfl, fun _ => rfl⟩, HT5, HB5⟩
  case round =>
    obtain ⟨k, s, f1, f2, HGG, hk, rfl, HD1, HD2, HAL, HT, HBL⟩ := hrel
    clear HT5 HB5
    have hk9 : k ≤ 100 := by omega
    by_cases hlt : k < xs.length
    case neg =>
      have el : decide ((k : Int) < (xs.length : Int)) = false := by simpa using hlt
      have en : decide (k < xs.length) = false := decide_eq_false hlt
      go_wp2
      go_ret
      exact ⟨rfl, HBL.out⟩
    obtain ⟨b2, off, v, rfl, x0, x1, x2, x3, x4, hi, hf⟩ := HX.out.kth2 HBL.out hlt
    obtain ⟨⟨kd, nm, ps, pg, po⟩, hA⟩ : ∃ A, A = xs[k] := ⟨_, rfl⟩
    rw [← hA] at x0 x1 x2 x3 hi hf
    simp only at x0 x1 x2 x3 hi hf
    obtain ⟨A', c', rfl⟩ := hi.shape
    have HI := Lib.hid hi
    have HFT := Lib.hid hf
    have HLT := Lib.hid hlt
    have el : decide ((k : Int) < (xs.length : Int)) = true := by simpa using hlt
    have en : decide (k < xs.length) = true := decide_eq_true hlt
    clear hA hlt hi hf
    go_upto_region 10 with (fail)
    obtain ⟨A, hAb⟩ : ∃ X, X = wr.heap.size := ⟨_, rfl⟩
    rw [← hAb]
    refine name_w (fun W => Pair w W b g bm gm A kd nm ps pg (.slice A' po.length c') s f1 s f2) ?_ ?_
    · rw [hAb]
      exact pair_begin HT.out HBL.out
    clear hAb HT HBL x0 x1 x2 x3 x4 el en HX
    rintro wa ha
    have y4 := ha.act.c4
    have HA := Lib.hid ha
    clear ha
    by_cases hlo : po.length ≤ 100
    case neg =>
      have m1 : decide (100 < (po.length : Int)) = true := by simp; omega
      have m2 : decide (100 < po.length) = true := by simp; omega
      clear hlo
      go_wp2
      go_ret
      exact ⟨rfl, HA.out.below⟩
    have m1 : decide (100 < (po.length : Int)) = false := by simp; omega
    have m2 : decide (100 < po.length) = false := by simp; omega
    have HLO := Lib.hid hlo
    clear hlo
    go_upto_region 12 with (fail)
    clear m1 m2 y4
    by_cases h1 : kd = 1
    case pos =>
      subst h1
      as_aux_lemma =>
        have y0 := HA.out.act.c0
        have y1 := HA.out.act.c1
        have y2 := HA.out.act.c2
        have y3 := HA.out.act.c3
        go_wp2_with fail
        refine (pair_set1 pg ps nm (8 * k) HA.out HD1.out (by omega)).mono ?_
        rintro e w7 ⟨j, hj, rfl, h7⟩
        have hj8 : j ≤ 8 := by have := hj.le; have := (triesC_in nm).2; omega
        have hs2 := HAL.out.st pg ps s j
        have hl2 := HAL.out.last pg ps s j
        have hj2 := HAL.out.setJ hj
        have hx1 := bd_st (gen := pg) (slot := ps) HD1.out j
        have hx2 := bd_st (gen := pg) (slot := ps) HD2.out j
        have hN2 : ∀ W, Pair w W b g bm gm A 1 nm ps pg (.slice A' po.length c') (st pg ps s f1 j).1 (st pg ps s f1 j).2 s f2 → Calls Try.prog 11 #[.pointer (some ⟨bm, 0, none⟩), .agg #[.int .i64 ps, .int .i64 pg], .int .i64 nm] W fun e w' => e = .returned (.tuple #[.int .i64 (last pg ps s f1 j), .int .i64 (j : Int)]) ∧ Pair w w' b g bm gm A 1 nm ps pg (.slice A' po.length c') (st pg ps s f1 j).1 (st pg ps s f1 j).2 (st pg ps s f1 j).1 (st pg ps s f2 j).2 := fun W h => by
          have h5 := pair_set2 pg ps nm (8 * k) j h HD2.out (by omega) hj2
          rw [hl2, hs2.1] at h5
          exact h5
        rw [hs2.1] at hx2
        obtain ⟨tt, htt⟩ : ∃ x, x = last pg ps s f1 j := ⟨_, rfl⟩
        obtain ⟨sx, hsx⟩ : ∃ x, x = (st pg ps s f1 j).1 := ⟨_, rfl⟩
        obtain ⟨fx, hfx⟩ : ∃ x, x = (st pg ps s f1 j).2 := ⟨_, rfl⟩
        obtain ⟨fy, hfy⟩ : ∃ x, x = (st pg ps s f2 j).2 := ⟨_, rfl⟩
        rw [← htt, ← hsx, ← hfx, ← hfy] at hN2
        rw [← hsx, ← hfx] at h7 hx1
        rw [← hsx, ← hfy] at hx2
        rw [← htt]
        have HN2 := Lib.hid hN2
        have H7 := Lib.hid h7
        have HDX1 : Hid (Bd (8 * (k + 1)) sx fx) := Lib.hid (hx1.up (by omega))
        have HDX2 : Hid (Bd (8 * (k + 1)) sx fy) := Lib.hid (hx2.up (by omega))
        have HAX : Hid (Al fx fy) := Lib.hid (by rw [hfx, hfy]; exact hs2.2)
        clear hj hs2 hl2 hj2 hx1 hx2 hN2 h7 htt hsx hfx hfy HA y0 y1 y2 y3
        have y1 := H7.out.act.c1
        have y2 := H7.out.act.c2
        have y3 := H7.out.act.c3
        go_wp2_with fail
        refine (HN2.out _ H7.out).mono ?_
        rintro e w8 ⟨rfl, h8⟩
        have HX := Lib.hid h8
        clear h8 y1 y2 y3 H7 HN2
        go_wp2
        obtain ⟨v0, hv0⟩ : ∃ x, x = sx.slot := ⟨_, rfl⟩
        obtain ⟨v1, hv1⟩ : ∃ x, x = sx.gen := ⟨_, rfl⟩
        obtain ⟨v2, hv2⟩ : ∃ x, x = sx.writes := ⟨_, rfl⟩
        obtain ⟨v3, hv3⟩ : ∃ x, x = fx.count := ⟨_, rfl⟩
        have HR1 : Hid (∀ W, Pair w W b g bm gm A 1 nm ps pg (.slice A' po.length c') sx fx sx fy → Calls Try.prog 18 #[.pointer (some ⟨b, 0, none⟩)] W fun e w' => e = .returned (.agg #[.int .i64 v0, .int .i64 v1]) ∧ Pair w w' b g bm gm A 1 nm ps pg (.slice A' po.length c') sx fx sx fy) := Lib.hid (fun W h => by rw [hv0, hv1]; exact pair_cell h)
        have HR2 : Hid (∀ W, Pair w W b g bm gm A 1 nm ps pg (.slice A' po.length c') sx fx sx fy → Calls Try.prog 19 #[.pointer (some ⟨b, 0, none⟩)] W fun e w' => e = .returned (.int .i64 v2) ∧ W = w') := Lib.hid (fun W h => by rw [hv2]; exact pair_writes h)
        have HR3 : Hid (∀ W, Pair w W b g bm gm A 1 nm ps pg (.slice A' po.length c') sx fx sx fy → Calls Try.prog 20 #[.pointer (some ⟨g, 0, none⟩)] W fun e w' => e = .returned (.int .i64 v3) ∧ W = w') := Lib.hid (fun W h => by rw [hv3]; exact pair_count h)
        have HC : Hid (∀ W, Pair w W b g bm gm A 1 nm ps pg (.slice A' po.length c') sx fx sx fy → W.cell? ⟨bm, 0, none⟩ = some (.int .i64 v0) ∧ W.cell? ⟨bm, 1, none⟩ = some (.int .i64 v1) ∧ W.cell? ⟨bm, 3, none⟩ = some (.int .i64 v2) ∧ W.cell? ⟨gm, 3, none⟩ = some (.int .i64 v3)) := Lib.hid (fun W h => by rw [hv0, hv1, hv2, hv3, HAX.out.count]; exact h.seen)
        clear hv0 hv1 hv2 hv3
        have x1 := HC.out _ HX.out
        go_region_held3 (fun wx => wx.cell? ⟨bm, 0, none⟩ = some (.int .i64 v0) ∧ wx.cell? ⟨bm, 1, none⟩ = some (.int .i64 v1) ∧ wx.cell? ⟨bm, 3, none⟩ = some (.int .i64 v2) ∧ wx.cell? ⟨gm, 3, none⟩ = some (.int .i64 v3)) (first | exact x2 | exact x1) (first | (go_at_call 18; refine (HR1.out _ HX.out.drew).mono ?_; rintro e wb ⟨rfl, hb1⟩; have x2 := HC.out _ hb1) | (go_at_call 19; refine (HR2.out _ hb1).mono ?_; rintro e w' ⟨rfl, rfl⟩) | (go_at_call 20; refine (HR3.out _ hb1).mono ?_; rintro e w' ⟨rfl, rfl⟩))
        have HZ := Lib.hid hb1
        clear hb1 x1 x2 HR1 HR2 HR3 HC HX
        go_wp2
        go_roundg (xs.length - (k + 1))
        case measure => have := HGG.out; have := HLT.out; omega
        case rel => exact ⟨k + 1, sx, fx, fy, Lib.hid rfl, HLT.out, by go_num, HDX1, HDX2, HAX, Lib.hid HZ.out.two, Lib.hid HZ.out.below⟩
    have e1 : (kd == 1) = false := by simpa using h1
    clear h1
    by_cases h2 : kd = 2
    case pos =>
      subst h2
      clear e1
      as_aux_lemma =>
        obtain ⟨A1, n1, c1, W1, ea, hi1, hb1⟩ := copy_ints (HI.out.under HA.out.below (Nat.le_refl _)) (by have := HLO.out; omega)
        have E1 := Lib.hid ea
        have HI1 := Lib.hid hi1
        have y0 := HA.out.act.c0
        have kA3 : (wa.alloc (.cells #[] 3)).cell? ⟨A, 4, none⟩ = some (.slice A' po.length c') := ((below_alloc wa (.cells #[] 3)).cell (p := ⟨A, 4, none⟩) HA.out.act.lt).trans HA.out.act.c4
        have HA1 := Lib.hid (HA.out.keep hb1)
        obtain ⟨sx, hsx⟩ : ∃ x : Ro, x = { s with outs := s.outs ++ po } := ⟨_, rfl⟩
        have HDX1 : Hid (Bd (8 * (k + 1)) sx f1) := Lib.hid (by rw [hsx]; exact (HD1.out.script po HLO.out).up (by omega))
        have HDX2 : Hid (Bd (8 * (k + 1)) sx f2) := Lib.hid (by rw [hsx]; exact (HD2.out.script po HLO.out).up (by omega))
        have HAX := HAL
        have bs0 := build0
        clear ea hi1 hb1 HA
        go_wp2_with (first | (at_builtin; refine wpList_append_is rfl (.tmp 78) (.tmp 80) 34 rfl rfl rfl E1.out ?_))
        refine (pair_script1 _ po HA1.out HI1.out (by have := HLO.out; have := HD1.out.outs; omega)).mono ?_
        rw [← hsx]
        rintro e w7 ⟨rfl, h7⟩
        have H7 := Lib.hid h7
        have k7 := h7.act.c4
        clear h7 y0 kA3 HA1 E1 HI1 bs0
        go_wp2_with fail
        refine (pair_script2 _ po H7.out (HI.out.under H7.out.below (Nat.le_refl _)) (by have := HLO.out; have := HD1.out.outs; omega)).mono ?_
        rw [← hsx]
        rintro e w8 ⟨rfl, h8⟩
        have HX := Lib.hid h8
        clear h8 k7 H7 hsx
        go_wp2
        obtain ⟨v0, hv0⟩ : ∃ x, x = sx.slot := ⟨_, rfl⟩
        obtain ⟨v1, hv1⟩ : ∃ x, x = sx.gen := ⟨_, rfl⟩
        obtain ⟨v2, hv2⟩ : ∃ x, x = sx.writes := ⟨_, rfl⟩
        obtain ⟨v3, hv3⟩ : ∃ x, x = f1.count := ⟨_, rfl⟩
        have HR1 : Hid (∀ W, Pair w W b g bm gm A 2 nm ps pg (.slice A' po.length c') sx f1 sx f2 → Calls Try.prog 18 #[.pointer (some ⟨b, 0, none⟩)] W fun e w' => e = .returned (.agg #[.int .i64 v0, .int .i64 v1]) ∧ Pair w w' b g bm gm A 2 nm ps pg (.slice A' po.length c') sx f1 sx f2) := Lib.hid (fun W h => by rw [hv0, hv1]; exact pair_cell h)
        have HR2 : Hid (∀ W, Pair w W b g bm gm A 2 nm ps pg (.slice A' po.length c') sx f1 sx f2 → Calls Try.prog 19 #[.pointer (some ⟨b, 0, none⟩)] W fun e w' => e = .returned (.int .i64 v2) ∧ W = w') := Lib.hid (fun W h => by rw [hv2]; exact pair_writes h)
        have HR3 : Hid (∀ W, Pair w W b g bm gm A 2 nm ps pg (.slice A' po.length c') sx f1 sx f2 → Calls Try.prog 20 #[.pointer (some ⟨g, 0, none⟩)] W fun e w' => e = .returned (.int .i64 v3) ∧ W = w') := Lib.hid (fun W h => by rw [hv3]; exact pair_count h)
        have HC : Hid (∀ W, Pair w W b g bm gm A 2 nm ps pg (.slice A' po.length c') sx f1 sx f2 → W.cell? ⟨bm, 0, none⟩ = some (.int .i64 v0) ∧ W.cell? ⟨bm, 1, none⟩ = some (.int .i64 v1) ∧ W.cell? ⟨bm, 3, none⟩ = some (.int .i64 v2) ∧ W.cell? ⟨gm, 3, none⟩ = some (.int .i64 v3)) := Lib.hid (fun W h => by rw [hv0, hv1, hv2, hv3, HAX.out.count]; exact h.seen)
        clear hv0 hv1 hv2 hv3
        have x1 := HC.out _ HX.out
        go_region_held3 (fun wx => wx.cell? ⟨bm, 0, none⟩ = some (.int .i64 v0) ∧ wx.cell? ⟨bm, 1, none⟩ = some (.int .i64 v1) ∧ wx.cell? ⟨bm, 3, none⟩ = some (.int .i64 v2) ∧ wx.cell? ⟨gm, 3, none⟩ = some (.int .i64 v3)) (first | exact x2 | exact x1) (first | (go_at_call 18; refine (HR1.out _ HX.out.drew).mono ?_; rintro e wb ⟨rfl, hb1⟩; have x2 := HC.out _ hb1) | (go_at_call 19; refine (HR2.out _ hb1).mono ?_; rintro e w' ⟨rfl, rfl⟩) | (go_at_call 20; refine (HR3.out _ hb1).mono ?_; rintro e w' ⟨rfl, rfl⟩))
        have HZ := Lib.hid hb1
        clear hb1 x1 x2 HR1 HR2 HR3 HC HX
        go_wp2
        go_roundg (xs.length - (k + 1))
        case measure => have := HGG.out; have := HLT.out; omega
        case rel => exact ⟨k + 1, sx, f1, f2, Lib.hid rfl, HLT.out, by go_num, HDX1, HDX2, HAX, Lib.hid HZ.out.two, Lib.hid HZ.out.below⟩
    have e2 : (kd == 2) = false := by simpa using h2
    clear h2
    by_cases h3 : kd = 3
    case pos =>
      subst h3
      clear e1 e2
      as_aux_lemma =>
        obtain ⟨fx, hfx⟩ : ∃ x : Fu, x = ⟨true, max nm 0, false, f1.count⟩ := ⟨_, rfl⟩
        obtain ⟨fy, hfy⟩ : ∃ x : Fu, x = ⟨true, max nm 0, false, f2.count⟩ := ⟨_, rfl⟩
        have HDX1 : Hid (Bd (8 * (k + 1)) s fx) := Lib.hid (by rw [hfx]; exact (HD1.out.arm nm HFT.out).up (by omega))
        have HDX2 : Hid (Bd (8 * (k + 1)) s fy) := Lib.hid (by rw [hfy]; exact (HD2.out.arm nm HFT.out).up (by omega))
        have HAX : Hid (Al fx fy) := Lib.hid (by rw [hfx, hfy]; exact ⟨rfl, rfl, HAL.out.count, fun _ => rfl⟩)
        have y0 := HA.out.act.c0
        have y1 := HA.out.act.c1
        go_wp2_with fail
        refine (pair_arm1 nm HA.out).mono ?_
        rw [← hfx]
        rintro e w7 ⟨rfl, h7⟩
        have H7 := Lib.hid h7
        have k7 := h7.act.c1
        clear h7 y0 y1 HA hfx
        go_wp2_with fail
        refine (pair_arm2 nm H7.out).mono ?_
        rw [← hfy]
        rintro e w8 ⟨rfl, h8⟩
        have HX := Lib.hid h8
        clear h8 k7 H7 hfy
        go_wp2
        obtain ⟨v0, hv0⟩ : ∃ x, x = s.slot := ⟨_, rfl⟩
        obtain ⟨v1, hv1⟩ : ∃ x, x = s.gen := ⟨_, rfl⟩
        obtain ⟨v2, hv2⟩ : ∃ x, x = s.writes := ⟨_, rfl⟩
        obtain ⟨v3, hv3⟩ : ∃ x, x = fx.count := ⟨_, rfl⟩
        have HR1 : Hid (∀ W, Pair w W b g bm gm A 3 nm ps pg (.slice A' po.length c') s fx s fy → Calls Try.prog 18 #[.pointer (some ⟨b, 0, none⟩)] W fun e w' => e = .returned (.agg #[.int .i64 v0, .int .i64 v1]) ∧ Pair w w' b g bm gm A 3 nm ps pg (.slice A' po.length c') s fx s fy) := Lib.hid (fun W h => by rw [hv0, hv1]; exact pair_cell h)
        have HR2 : Hid (∀ W, Pair w W b g bm gm A 3 nm ps pg (.slice A' po.length c') s fx s fy → Calls Try.prog 19 #[.pointer (some ⟨b, 0, none⟩)] W fun e w' => e = .returned (.int .i64 v2) ∧ W = w') := Lib.hid (fun W h => by rw [hv2]; exact pair_writes h)
        have HR3 : Hid (∀ W, Pair w W b g bm gm A 3 nm ps pg (.slice A' po.length c') s fx s fy → Calls Try.prog 20 #[.pointer (some ⟨g, 0, none⟩)] W fun e w' => e = .returned (.int .i64 v3) ∧ W = w') := Lib.hid (fun W h => by rw [hv3]; exact pair_count h)
        have HC : Hid (∀ W, Pair w W b g bm gm A 3 nm ps pg (.slice A' po.length c') s fx s fy → W.cell? ⟨bm, 0, none⟩ = some (.int .i64 v0) ∧ W.cell? ⟨bm, 1, none⟩ = some (.int .i64 v1) ∧ W.cell? ⟨bm, 3, none⟩ = some (.int .i64 v2) ∧ W.cell? ⟨gm, 3, none⟩ = some (.int .i64 v3)) := Lib.hid (fun W h => by rw [hv0, hv1, hv2, hv3, HAX.out.count]; exact h.seen)
        clear hv0 hv1 hv2 hv3
        have x1 := HC.out _ HX.out
        go_region_held3 (fun wx => wx.cell? ⟨bm, 0, none⟩ = some (.int .i64 v0) ∧ wx.cell? ⟨bm, 1, none⟩ = some (.int .i64 v1) ∧ wx.cell? ⟨bm, 3, none⟩ = some (.int .i64 v2) ∧ wx.cell? ⟨gm, 3, none⟩ = some (.int .i64 v3)) (first | exact x2 | exact x1) (first | (go_at_call 18; refine (HR1.out _ HX.out.drew).mono ?_; rintro e wb ⟨rfl, hb1⟩; have x2 := HC.out _ hb1) | (go_at_call 19; refine (HR2.out _ hb1).mono ?_; rintro e w' ⟨rfl, rfl⟩) | (go_at_call 20; refine (HR3.out _ hb1).mono ?_; rintro e w' ⟨rfl, rfl⟩))
        have HZ := Lib.hid hb1
        clear hb1 x1 x2 HR1 HR2 HR3 HC HX
        go_wp2
        go_roundg (xs.length - (k + 1))
        case measure => have := HGG.out; have := HLT.out; omega
        case rel => exact ⟨k + 1, s, fx, fy, Lib.hid rfl, HLT.out, by go_num, HDX1, HDX2, HAX, Lib.hid HZ.out.two, Lib.hid HZ.out.below⟩
    have e3 : (kd == 3) = false := by simpa using h3
    clear h3
    by_cases h4 : kd = 4
    case pos =>
      subst h4
      clear e1 e2 e3
      as_aux_lemma =>
        obtain ⟨fx, hfx⟩ : ∃ x : Fu, x = ⟨false, 0, false, f1.count⟩ := ⟨_, rfl⟩
        obtain ⟨fy, hfy⟩ : ∃ x : Fu, x = ⟨false, f2.left, false, f2.count⟩ := ⟨_, rfl⟩
        have HDX1 : Hid (Bd (8 * (k + 1)) s fx) := Lib.hid (by rw [hfx]; exact (HD1.out.reset 0).up (by omega))
        have HDX2 : Hid (Bd (8 * (k + 1)) s fy) := Lib.hid (by rw [hfy]; exact (HD2.out.reset _).up (by omega))
        have HAX : Hid (Al fx fy) := Lib.hid (by rw [hfx, hfy]; exact ⟨rfl, rfl, HAL.out.count, fun h => (by cases h)⟩)
        have y0 := HA.out.act.c0
        go_wp2_with fail
        refine (pair_reset1 HA.out).mono ?_
        rw [← hfx]
        rintro e w7 ⟨rfl, h7⟩
        have H7 := Lib.hid h7
        clear h7 y0 HA hfx
        go_wp2_with fail
        refine (pair_reset2 H7.out).mono ?_
        rw [← hfy]
        rintro e w8 ⟨rfl, h8⟩
        have HX := Lib.hid h8
        clear h8 H7 hfy
        go_wp2
        obtain ⟨v0, hv0⟩ : ∃ x, x = s.slot := ⟨_, rfl⟩
        obtain ⟨v1, hv1⟩ : ∃ x, x = s.gen := ⟨_, rfl⟩
        obtain ⟨v2, hv2⟩ : ∃ x, x = s.writes := ⟨_, rfl⟩
        obtain ⟨v3, hv3⟩ : ∃ x, x = fx.count := ⟨_, rfl⟩
        have HR1 : Hid (∀ W, Pair w W b g bm gm A 4 nm ps pg (.slice A' po.length c') s fx s fy → Calls Try.prog 18 #[.pointer (some ⟨b, 0, none⟩)] W fun e w' => e = .returned (.agg #[.int .i64 v0, .int .i64 v1]) ∧ Pair w w' b g bm gm A 4 nm ps pg (.slice A' po.length c') s fx s fy) := Lib.hid (fun W h => by rw [hv0, hv1]; exact pair_cell h)
        have HR2 : Hid (∀ W, Pair w W b g bm gm A 4 nm ps pg (.slice A' po.length c') s fx s fy → Calls Try.prog 19 #[.pointer (some ⟨b, 0, none⟩)] W fun e w' => e = .returned (.int .i64 v2) ∧ W = w') := Lib.hid (fun W h => by rw [hv2]; exact pair_writes h)
        have HR3 : Hid (∀ W, Pair w W b g bm gm A 4 nm ps pg (.slice A' po.length c') s fx s fy → Calls Try.prog 20 #[.pointer (some ⟨g, 0, none⟩)] W fun e w' => e = .returned (.int .i64 v3) ∧ W = w') := Lib.hid (fun W h => by rw [hv3]; exact pair_count h)
        have HC : Hid (∀ W, Pair w W b g bm gm A 4 nm ps pg (.slice A' po.length c') s fx s fy → W.cell? ⟨bm, 0, none⟩ = some (.int .i64 v0) ∧ W.cell? ⟨bm, 1, none⟩ = some (.int .i64 v1) ∧ W.cell? ⟨bm, 3, none⟩ = some (.int .i64 v2) ∧ W.cell? ⟨gm, 3, none⟩ = some (.int .i64 v3)) := Lib.hid (fun W h => by rw [hv0, hv1, hv2, hv3, HAX.out.count]; exact h.seen)
        clear hv0 hv1 hv2 hv3
        have x1 := HC.out _ HX.out
        go_region_held3 (fun wx => wx.cell? ⟨bm, 0, none⟩ = some (.int .i64 v0) ∧ wx.cell? ⟨bm, 1, none⟩ = some (.int .i64 v1) ∧ wx.cell? ⟨bm, 3, none⟩ = some (.int .i64 v2) ∧ wx.cell? ⟨gm, 3, none⟩ = some (.int .i64 v3)) (first | exact x2 | exact x1) (first | (go_at_call 18; refine (HR1.out _ HX.out.drew).mono ?_; rintro e wb ⟨rfl, hb1⟩; have x2 := HC.out _ hb1) | (go_at_call 19; refine (HR2.out _ hb1).mono ?_; rintro e w' ⟨rfl, rfl⟩) | (go_at_call 20; refine (HR3.out _ hb1).mono ?_; rintro e w' ⟨rfl, rfl⟩))
        have HZ := Lib.hid hb1
        clear hb1 x1 x2 HR1 HR2 HR3 HC HX
        go_wp2
        go_roundg (xs.length - (k + 1))
        case measure => have := HGG.out; have := HLT.out; omega
        case rel => exact ⟨k + 1, s, fx, fy, Lib.hid rfl, HLT.out, by go_num, HDX1, HDX2, HAX, Lib.hid HZ.out.two, Lib.hid HZ.out.below⟩
    have e4 : (kd == 4) = false := by simpa using h4
    clear h4
    as_aux_lemma =>
      have HDX1 : Hid (Bd (8 * (k + 1)) s f1) := Lib.hid (HD1.out.up (by omega))
      have HDX2 : Hid (Bd (8 * (k + 1)) s f2) := Lib.hid (HD2.out.up (by omega))
      have HAX := HAL
      have y0 := HA.out.act.c0
      go_wp2
      have HX := HA
      clear y0 HA
      obtain ⟨v0, hv0⟩ : ∃ x, x = s.slot := ⟨_, rfl⟩
      obtain ⟨v1, hv1⟩ : ∃ x, x = s.gen := ⟨_, rfl⟩
      obtain ⟨v2, hv2⟩ : ∃ x, x = s.writes := ⟨_, rfl⟩
      obtain ⟨v3, hv3⟩ : ∃ x, x = f1.count := ⟨_, rfl⟩
      have HR1 : Hid (∀ W, Pair w W b g bm gm A kd nm ps pg (.slice A' po.length c') s f1 s f2 → Calls Try.prog 18 #[.pointer (some ⟨b, 0, none⟩)] W fun e w' => e = .returned (.agg #[.int .i64 v0, .int .i64 v1]) ∧ Pair w w' b g bm gm A kd nm ps pg (.slice A' po.length c') s f1 s f2) := Lib.hid (fun W h => by rw [hv0, hv1]; exact pair_cell h)
      have HR2 : Hid (∀ W, Pair w W b g bm gm A kd nm ps pg (.slice A' po.length c') s f1 s f2 → Calls Try.prog 19 #[.pointer (some ⟨b, 0, none⟩)] W fun e w' => e = .returned (.int .i64 v2) ∧ W = w') := Lib.hid (fun W h => by rw [hv2]; exact pair_writes h)
      have HR3 : Hid (∀ W, Pair w W b g bm gm A kd nm ps pg (.slice A' po.length c') s f1 s f2 → Calls Try.prog 20 #[.pointer (some ⟨g, 0, none⟩)] W fun e w' => e = .returned (.int .i64 v3) ∧ W = w') := Lib.hid (fun W h => by rw [hv3]; exact pair_count h)
      have HC : Hid (∀ W, Pair w W b g bm gm A kd nm ps pg (.slice A' po.length c') s f1 s f2 → W.cell? ⟨bm, 0, none⟩ = some (.int .i64 v0) ∧ W.cell? ⟨bm, 1, none⟩ = some (.int .i64 v1) ∧ W.cell? ⟨bm, 3, none⟩ = some (.int .i64 v2) ∧ W.cell? ⟨gm, 3, none⟩ = some (.int .i64 v3)) := Lib.hid (fun W h => by rw [hv0, hv1, hv2, hv3, HAX.out.count]; exact h.seen)
      clear hv0 hv1 hv2 hv3
      have x1 := HC.out _ HX.out
      go_region_held3 (fun wx => wx.cell? ⟨bm, 0, none⟩ = some (.int .i64 v0) ∧ wx.cell? ⟨bm, 1, none⟩ = some (.int .i64 v1) ∧ wx.cell? ⟨bm, 3, none⟩ = some (.int .i64 v2) ∧ wx.cell? ⟨gm, 3, none⟩ = some (.int .i64 v3)) (first | exact x2 | exact x1) (first | (go_at_call 18; refine (HR1.out _ HX.out.drew).mono ?_; rintro e wb ⟨rfl, hb1⟩; have x2 := HC.out _ hb1) | (go_at_call 19; refine (HR2.out _ hb1).mono ?_; rintro e w' ⟨rfl, rfl⟩) | (go_at_call 20; refine (HR3.out _ hb1).mono ?_; rintro e w' ⟨rfl, rfl⟩))
      have HZ := Lib.hid hb1
      clear hb1 x1 x2 HR1 HR2 HR3 HC HX
      go_wp2
      go_roundg (xs.length - (k + 1))
      case measure => have := HGG.out; have := HLT.out; omega
      case rel => exact ⟨k + 1, s, f1, f2, Lib.hid rfl, HLT.out, by go_num, HDX1, HDX2, HAX, Lib.hid HZ.out.two, Lib.hid HZ.out.below⟩

theorem walk (v : Value) (xs : List Ac) (w : World) (hx : ActsI w v xs) : Calls Try.prog 3 #[v] w (Holds w) := by
  obtain ⟨A, c, rfl⟩ := hx.shape
  by_cases h : xs.length ≤ 100
  · exact walk_in A c xs w hx h
  · exact walk_out A c xs w (by omega)

/-! From the walk to the given row. -/
set_option maxRecDepth 100000 in
theorem lifted (os : Os) (started : os.Started) (H : Type) (enc : TypeId × Value → H) :
    ReturnsInHanded {} Try.checked os 3 .any (Rows.clientPlaysSpec.pre6 enc Try.prog Try.f3 Rows.clientPlaysRow.domain false) (Rows.clientPlaysSpec.post enc Try.prog Try.f3 false true false false) := by
  refine returnsInHanded_of_change (C := Try.checked) t_own started (by kernel_rfl) Try.func3
    (ChangeSpec.witness6 (enc := enc) (C := Try.checked) false ⟨#[], #[.slice none 0 0], []⟩ 8 (by kernel_rfl) (by kernel_rfl) (by kernel_rfl) (by kernel_rfl)) ?_
  intro W base args ds gs before hval0 hW hcnd _
  have hval : ∀ (j : Nat) t v, Try.f3.params[j]? = some t → args[j]? = some v → Value.okWide Try.prog W .any base t v := hval0
  have hW' := hW
  obtain ⟨p, q, hA0, hV, rfl, hfz, hnd⟩ := hW
  have hA : DataW.TrodAll enc Try.prog W 0 (fun _ => true) true Try.f3.params.toList args.toList ds p := hA0
  rw [Try.params3] at hA hval
  obtain ⟨v0, vs0, d0, ds0, p0, q0, hargs, rfl, rfl, h0, r0⟩ := trodAll_cons hA
  obtain ⟨rfl, rfl, rfl⟩ := trodAll_nil r0
  obtain rfl : args = #[v0] := by cases args; simp_all
  obtain ⟨xs, hx⟩ := open_acts (hval 0 22 v0 rfl rfl) h0
  refine (walk v0 xs W hx).mono fun e W' ⟨he, hb⟩ => ?_
  subst he
  exact ⟨_, rfl, post_of_holds hW' (by kernel_rfl) rfl (by rw [Try.params3]; exact fun t ht => params_ok t (by simp at ht; rcases ht with rfl <;> simp)) ⟨rfl, rfl, rfl⟩ hb⟩

/-- The given statement. -/
theorem proved : Rows.ClientPlaysSaid :=
  OpenClaim.holds_of_wide 3 Try.f3 rfl rfl rfl rfl rfl rfl rfl ⟨rfl, rfl, rfl, rfl, rfl⟩ rfl rfl rfl rfl rfl (by kernel_rfl) Try.func3 (by kernel_rfl)
    (of_decide_eq_true (by kernel_rfl)) (by unfold Func.isWrapper; first | (rw [if_pos (by decide +kernel)]; kernel_rfl) | (rw [if_neg (by decide +kernel)]; exact ⟨rfl, rfl⟩))
    (fun os started H enc _ => lifted os started H enc)
#print axioms proved
end Go.Proofs.Ytjalmfomeehpgaa.clientPlays
