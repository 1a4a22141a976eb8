/-
  What the document's own Clean answers, of the Kinds 5, 6, 7, 8.
-/
import Derived.Test.YthombepmlepgfaaDoorMref
import Derived.Test.YthombepmlepgfaaDoorAwak
import Derived.Test.YthombepmlepgfaaDoorSize
namespace Go.Proofs.YthombepmlepgfaaDoor
open Go.RowKit

set_option maxRecDepth 100000 in
set_option maxHeartbeats 2000000 in
theorem mclean_5_rev (rev : Int) (cnt : Int) (delay : Int) (gen : Int) (tick : Int) (pass : Bool) (phase : Int) (active : Int) (r0 : Int) (r1 : Int) (w0 : Int) (w1 : Int) (p0 : Bool) (p1 : Bool) (sdelay : Int) (sgen : Int) (sw : Int) (flip : Int) (cs : Array Value) (w : World) (hne : (rev != 0) = true) (hcs : cs = recC ⟨5, rev, cnt, delay, gen, tick, pass, phase, active, r0, r1, w0, w1, p0, p1, sdelay, sgen, sw, flip⟩) : Calls Tryd.prog 21 #[.agg cs] w fun e w' => e = .returned (.bool false) ∧ Below w.heap.size w w' := by
  have HC := Lib.hid hcs
  clear hcs
  go_enter Tryd.func21, Tryd.ntmps21
  go_upto_region 1 with (fail)
  refine name_w (fun W => Rw W w.heap.size cs 27 ∧ Below w.heap.size w W) ⟨Rw.new _ _ _, (Below.refl _ _).alloc (Nat.le_refl _) _⟩ ?_
  rintro W ⟨hR, hb⟩
  have HB := Lib.hid hb
  have c0 : W.cell? ⟨w.heap.size, 0, none⟩ = some (.int .i64 5) := by rw [hR.cell 0, HC.out]; rfl
  have c1 : W.cell? ⟨w.heap.size, 1, none⟩ = some (.int .i64 rev) := by rw [hR.cell 1, HC.out]; rfl
  clear hR hb
  go_wp2
  go_ret
  exact ⟨rfl, HB.out⟩
set_option maxRecDepth 100000 in
set_option maxHeartbeats 2000000 in
theorem mclean_5_cnt (cnt : Int) (delay : Int) (gen : Int) (tick : Int) (pass : Bool) (phase : Int) (active : Int) (r0 : Int) (r1 : Int) (w0 : Int) (w1 : Int) (p0 : Bool) (p1 : Bool) (sdelay : Int) (sgen : Int) (sw : Int) (flip : Int) (cs : Array Value) (w : World) (hne : (cnt != 0) = true) (hcs : cs = recC ⟨5, 0, cnt, delay, gen, tick, pass, phase, active, r0, r1, w0, w1, p0, p1, sdelay, sgen, sw, flip⟩) : Calls Tryd.prog 21 #[.agg cs] w fun e w' => e = .returned (.bool false) ∧ Below w.heap.size w w' := by
  have HC := Lib.hid hcs
  clear hcs
  go_enter Tryd.func21, Tryd.ntmps21
  go_upto_region 1 with (fail)
  refine name_w (fun W => Rw W w.heap.size cs 27 ∧ Below w.heap.size w W) ⟨Rw.new _ _ _, (Below.refl _ _).alloc (Nat.le_refl _) _⟩ ?_
  rintro W ⟨hR, hb⟩
  have HB := Lib.hid hb
  have c0 : W.cell? ⟨w.heap.size, 0, none⟩ = some (.int .i64 5) := by rw [hR.cell 0, HC.out]; rfl
  have c1 : W.cell? ⟨w.heap.size, 1, none⟩ = some (.int .i64 0) := by rw [hR.cell 1, HC.out]; rfl
  have c2 : W.cell? ⟨w.heap.size, 2, none⟩ = some (.int .i64 cnt) := by rw [hR.cell 2, HC.out]; rfl
  clear hR hb
  go_wp2
  go_ret
  exact ⟨rfl, HB.out⟩
set_option maxRecDepth 100000 in
set_option maxHeartbeats 2000000 in
theorem mclean_5_delay (delay : Int) (gen : Int) (tick : Int) (pass : Bool) (phase : Int) (active : Int) (r0 : Int) (r1 : Int) (w0 : Int) (w1 : Int) (p0 : Bool) (p1 : Bool) (sdelay : Int) (sgen : Int) (sw : Int) (flip : Int) (cs : Array Value) (w : World) (hne : (delay != 0) = true) (hcs : cs = recC ⟨5, 0, 0, delay, gen, tick, pass, phase, active, r0, r1, w0, w1, p0, p1, sdelay, sgen, sw, flip⟩) : Calls Tryd.prog 21 #[.agg cs] w fun e w' => e = .returned (.bool false) ∧ Below w.heap.size w w' := by
  have HC := Lib.hid hcs
  clear hcs
  go_enter Tryd.func21, Tryd.ntmps21
  go_upto_region 1 with (fail)
  refine name_w (fun W => Rw W w.heap.size cs 27 ∧ Below w.heap.size w W) ⟨Rw.new _ _ _, (Below.refl _ _).alloc (Nat.le_refl _) _⟩ ?_
  rintro W ⟨hR, hb⟩
  have HB := Lib.hid hb
  have c0 : W.cell? ⟨w.heap.size, 0, none⟩ = some (.int .i64 5) := by rw [hR.cell 0, HC.out]; rfl
  have c1 : W.cell? ⟨w.heap.size, 1, none⟩ = some (.int .i64 0) := by rw [hR.cell 1, HC.out]; rfl
  have c2 : W.cell? ⟨w.heap.size, 2, none⟩ = some (.int .i64 0) := by rw [hR.cell 2, HC.out]; rfl
  have c3 : W.cell? ⟨w.heap.size, 3, none⟩ = some (.int .i64 delay) := by rw [hR.cell 3, HC.out]; rfl
  clear hR hb
  go_wp2
  go_ret
  exact ⟨rfl, HB.out⟩
set_option maxRecDepth 100000 in
set_option maxHeartbeats 2000000 in
theorem mclean_5_pass (gen : Int) (tick : Int) (phase : Int) (active : Int) (r0 : Int) (r1 : Int) (w0 : Int) (w1 : Int) (p0 : Bool) (p1 : Bool) (sdelay : Int) (sgen : Int) (sw : Int) (flip : Int) (cs : Array Value) (w : World) (hcs : cs = recC ⟨5, 0, 0, 0, gen, tick, true, phase, active, r0, r1, w0, w1, p0, p1, sdelay, sgen, sw, flip⟩) : Calls Tryd.prog 21 #[.agg cs] w fun e w' => e = .returned (.bool false) ∧ Below w.heap.size w w' := by
  have HC := Lib.hid hcs
  clear hcs
  go_enter Tryd.func21, Tryd.ntmps21
  go_upto_region 1 with (fail)
  refine name_w (fun W => Rw W w.heap.size cs 27 ∧ Below w.heap.size w W) ⟨Rw.new _ _ _, (Below.refl _ _).alloc (Nat.le_refl _) _⟩ ?_
  rintro W ⟨hR, hb⟩
  have HB := Lib.hid hb
  have c0 : W.cell? ⟨w.heap.size, 0, none⟩ = some (.int .i64 5) := by rw [hR.cell 0, HC.out]; rfl
  have c1 : W.cell? ⟨w.heap.size, 1, none⟩ = some (.int .i64 0) := by rw [hR.cell 1, HC.out]; rfl
  have c2 : W.cell? ⟨w.heap.size, 2, none⟩ = some (.int .i64 0) := by rw [hR.cell 2, HC.out]; rfl
  have c3 : W.cell? ⟨w.heap.size, 3, none⟩ = some (.int .i64 0) := by rw [hR.cell 3, HC.out]; rfl
  have c6 : W.cell? ⟨w.heap.size, 6, none⟩ = some (.bool true) := by rw [hR.cell 6, HC.out]; rfl
  clear hR hb
  go_wp2
  go_ret
  exact ⟨rfl, HB.out⟩
set_option maxRecDepth 100000 in
set_option maxHeartbeats 2000000 in
theorem mclean_5_tick (gen : Int) (tick : Int) (phase : Int) (active : Int) (r0 : Int) (r1 : Int) (w0 : Int) (w1 : Int) (p0 : Bool) (p1 : Bool) (sdelay : Int) (sgen : Int) (sw : Int) (flip : Int) (cs : Array Value) (w : World) (hne : (tick != 0) = true) (hcs : cs = recC ⟨5, 0, 0, 0, gen, tick, false, phase, active, r0, r1, w0, w1, p0, p1, sdelay, sgen, sw, flip⟩) : Calls Tryd.prog 21 #[.agg cs] w fun e w' => e = .returned (.bool false) ∧ Below w.heap.size w w' := by
  have HC := Lib.hid hcs
  clear hcs
  go_enter Tryd.func21, Tryd.ntmps21
  go_upto_region 1 with (fail)
  refine name_w (fun W => Rw W w.heap.size cs 27 ∧ Below w.heap.size w W) ⟨Rw.new _ _ _, (Below.refl _ _).alloc (Nat.le_refl _) _⟩ ?_
  rintro W ⟨hR, hb⟩
  have HB := Lib.hid hb
  have c0 : W.cell? ⟨w.heap.size, 0, none⟩ = some (.int .i64 5) := by rw [hR.cell 0, HC.out]; rfl
  have c1 : W.cell? ⟨w.heap.size, 1, none⟩ = some (.int .i64 0) := by rw [hR.cell 1, HC.out]; rfl
  have c2 : W.cell? ⟨w.heap.size, 2, none⟩ = some (.int .i64 0) := by rw [hR.cell 2, HC.out]; rfl
  have c3 : W.cell? ⟨w.heap.size, 3, none⟩ = some (.int .i64 0) := by rw [hR.cell 3, HC.out]; rfl
  have c6 : W.cell? ⟨w.heap.size, 6, none⟩ = some (.bool false) := by rw [hR.cell 6, HC.out]; rfl
  have c5 : W.cell? ⟨w.heap.size, 5, none⟩ = some (.int .i64 tick) := by rw [hR.cell 5, HC.out]; rfl
  clear hR hb
  go_wp2
  go_ret
  exact ⟨rfl, HB.out⟩
set_option maxRecDepth 100000 in
set_option maxHeartbeats 2000000 in
theorem mclean_5_end (gen : Int) (phase : Int) (active : Int) (r0 : Int) (r1 : Int) (w0 : Int) (w1 : Int) (p0 : Bool) (p1 : Bool) (sdelay : Int) (sgen : Int) (sw : Int) (flip : Int) (cs zs : Array Value) (q : Bool) (w : World) (hcs : cs = recC ⟨5, 0, 0, 0, gen, 0, false, phase, active, r0, r1, w0, w1, p0, p1, sdelay, sgen, sw, flip⟩) (hzs : zs = stC zeroR) (hq : ∀ W, (Op.equalIn 10000 25 (.agg #[.int .i64 phase, .int .i64 active, .int .i64 r0, .int .i64 r1, .int .i64 w0, .int .i64 w1, .bool p0, .bool p1, .int .i64 sdelay, .int .i64 sgen, .int .i64 sw, .int .i64 flip]) (.agg zs)).run Tryd.prog W = .ok q W) : Calls Tryd.prog 21 #[.agg cs] w fun e w' => e = .returned (.bool q) ∧ Below w.heap.size w w' := by
  have HZ := Lib.hid hzs
  have HZZ : Hid (zs.size = 12) := Lib.hid (by rw [hzs]; rfl)
  clear hzs
  have HC := Lib.hid hcs
  clear hcs
  go_enter Tryd.func21, Tryd.ntmps21
  go_upto_region 1 with (fail)
  refine name_w (fun W => Rw W w.heap.size cs 27 ∧ Below w.heap.size w W) ⟨Rw.new _ _ _, (Below.refl _ _).alloc (Nat.le_refl _) _⟩ ?_
  rintro W ⟨hR, hb⟩
  have HB := Lib.hid hb
  have c0 : W.cell? ⟨w.heap.size, 0, none⟩ = some (.int .i64 5) := by rw [hR.cell 0, HC.out]; rfl
  have c1 : W.cell? ⟨w.heap.size, 1, none⟩ = some (.int .i64 0) := by rw [hR.cell 1, HC.out]; rfl
  have c2 : W.cell? ⟨w.heap.size, 2, none⟩ = some (.int .i64 0) := by rw [hR.cell 2, HC.out]; rfl
  have c3 : W.cell? ⟨w.heap.size, 3, none⟩ = some (.int .i64 0) := by rw [hR.cell 3, HC.out]; rfl
  have c6 : W.cell? ⟨w.heap.size, 6, none⟩ = some (.bool false) := by rw [hR.cell 6, HC.out]; rfl
  have c5 : W.cell? ⟨w.heap.size, 5, none⟩ = some (.int .i64 0) := by rw [hR.cell 5, HC.out]; rfl
  have c7 : W.cell? ⟨w.heap.size, 7, none⟩ = some (.int .i64 phase) := by rw [hR.cell 7, HC.out]; rfl
  have c8 : W.cell? ⟨w.heap.size, 8, none⟩ = some (.int .i64 active) := by rw [hR.cell 8, HC.out]; rfl
  have c9 : W.cell? ⟨w.heap.size, 9, none⟩ = some (.int .i64 r0) := by rw [hR.cell 9, HC.out]; rfl
  have c10 : W.cell? ⟨w.heap.size, 10, none⟩ = some (.int .i64 r1) := by rw [hR.cell 10, HC.out]; rfl
  have c11 : W.cell? ⟨w.heap.size, 11, none⟩ = some (.int .i64 w0) := by rw [hR.cell 11, HC.out]; rfl
  have c12 : W.cell? ⟨w.heap.size, 12, none⟩ = some (.int .i64 w1) := by rw [hR.cell 12, HC.out]; rfl
  have c13 : W.cell? ⟨w.heap.size, 13, none⟩ = some (.bool p0) := by rw [hR.cell 13, HC.out]; rfl
  have c14 : W.cell? ⟨w.heap.size, 14, none⟩ = some (.bool p1) := by rw [hR.cell 14, HC.out]; rfl
  have c15 : W.cell? ⟨w.heap.size, 15, none⟩ = some (.int .i64 sdelay) := by rw [hR.cell 15, HC.out]; rfl
  have c16 : W.cell? ⟨w.heap.size, 16, none⟩ = some (.int .i64 sgen) := by rw [hR.cell 16, HC.out]; rfl
  have c17 : W.cell? ⟨w.heap.size, 17, none⟩ = some (.int .i64 sw) := by rw [hR.cell 17, HC.out]; rfl
  have c18 : W.cell? ⟨w.heap.size, 18, none⟩ = some (.int .i64 flip) := by rw [hR.cell 18, HC.out]; rfl
  clear hR hb
  go_upto_region 7 with (fail)
  go_upto_region 8 with (refine wpList_plain rfl fun _ hK => wp_store_row 25 (.tmp 3) (.tmp 57) rfl W.heap.size _ rfl rfl 25 _ (Rw.new W _ 25) (by kernel_rfl) rfl (by simp [Value.oneCell']) (hK _ _ ?_); clear hK)
  refine name_w (fun W2 => Rw W2 W.heap.size zs 25 ∧ Below W.heap.size W W2) ⟨by rw [HZ.out]; exact (Rw.new W (stC zeroR) 25).set _, below_setRow ((Below.refl _ _).alloc (Nat.le_refl _) _) (Nat.le_refl _) _⟩ ?_
  rintro W2 ⟨hQ, hb2⟩
  have HQ := Lib.hid hQ
  have HLT : w.heap.size < W.heap.size := block_lt_of_cell c0
  have d0 : W2.cell? ⟨w.heap.size, 0, none⟩ = some (.int .i64 5) := (hb2.cell (p := ⟨w.heap.size, 0, none⟩) HLT).trans c0
  have d7 : W2.cell? ⟨w.heap.size, 7, none⟩ = some (.int .i64 phase) := (hb2.cell (p := ⟨w.heap.size, 7, none⟩) HLT).trans c7
  have d8 : W2.cell? ⟨w.heap.size, 8, none⟩ = some (.int .i64 active) := (hb2.cell (p := ⟨w.heap.size, 8, none⟩) HLT).trans c8
  have d9 : W2.cell? ⟨w.heap.size, 9, none⟩ = some (.int .i64 r0) := (hb2.cell (p := ⟨w.heap.size, 9, none⟩) HLT).trans c9
  have d10 : W2.cell? ⟨w.heap.size, 10, none⟩ = some (.int .i64 r1) := (hb2.cell (p := ⟨w.heap.size, 10, none⟩) HLT).trans c10
  have d11 : W2.cell? ⟨w.heap.size, 11, none⟩ = some (.int .i64 w0) := (hb2.cell (p := ⟨w.heap.size, 11, none⟩) HLT).trans c11
  have d12 : W2.cell? ⟨w.heap.size, 12, none⟩ = some (.int .i64 w1) := (hb2.cell (p := ⟨w.heap.size, 12, none⟩) HLT).trans c12
  have d13 : W2.cell? ⟨w.heap.size, 13, none⟩ = some (.bool p0) := (hb2.cell (p := ⟨w.heap.size, 13, none⟩) HLT).trans c13
  have d14 : W2.cell? ⟨w.heap.size, 14, none⟩ = some (.bool p1) := (hb2.cell (p := ⟨w.heap.size, 14, none⟩) HLT).trans c14
  have d15 : W2.cell? ⟨w.heap.size, 15, none⟩ = some (.int .i64 sdelay) := (hb2.cell (p := ⟨w.heap.size, 15, none⟩) HLT).trans c15
  have d16 : W2.cell? ⟨w.heap.size, 16, none⟩ = some (.int .i64 sgen) := (hb2.cell (p := ⟨w.heap.size, 16, none⟩) HLT).trans c16
  have d17 : W2.cell? ⟨w.heap.size, 17, none⟩ = some (.int .i64 sw) := (hb2.cell (p := ⟨w.heap.size, 17, none⟩) HLT).trans c17
  have d18 : W2.cell? ⟨w.heap.size, 18, none⟩ = some (.int .i64 flip) := (hb2.cell (p := ⟨w.heap.size, 18, none⟩) HLT).trans c18
  have HB2 := Lib.hid (HB.out.trans (hb2.mono HB.out.size))
  clear hb2 hQ HLT c0 c1 c2 c3 c6 c5 c7 c8 c9 c10 c11 c12 c13 c14 c15 c16 c17 c18
  go_wp2_with (refine wpList_load_any (by rfl) 25 (.tmp 3) rfl W.heap.size rfl 25 zs (0, 0) _ HQ.out Tryd.underlying25 rfl (by rw [HZZ.out]; exact i12) ?_)
  go_ret
  exact ⟨rfl, HB2.out⟩
theorem mclean_5 (r : Rc) (w : World) (hr : FitsR r) (hk : r.kind = 5) : Calls Tryd.prog 21 #[recV r] w fun e w' => e = .returned (.bool (decide (zap r.all [3] = zeros))) ∧ Below w.heap.size w w' := by
  obtain ⟨k, rev, cnt, delay, gen, tick, pass, phase, active, r0, r1, w0, w1, p0, p1, sdelay, sgen, sw, flip⟩ := r
  obtain rfl : k = 5 := hk
  by_cases hrev : rev = 0
  case neg =>
    rw [decide_eq_false (fun h => by have h1 : rev = 0 := congrArg (fun l => at_ l 0) h; exact hrev h1)]
    exact mclean_5_rev rev cnt delay gen tick pass phase active r0 r1 w0 w1 p0 p1 sdelay sgen sw flip _ w (by simpa using hrev) rfl
  subst hrev
  by_cases hcnt : cnt = 0
  case neg =>
    rw [decide_eq_false (fun h => by have h1 : cnt = 0 := congrArg (fun l => at_ l 1) h; exact hcnt h1)]
    exact mclean_5_cnt cnt delay gen tick pass phase active r0 r1 w0 w1 p0 p1 sdelay sgen sw flip _ w (by simpa using hcnt) rfl
  subst hcnt
  by_cases hdelay : delay = 0
  case neg =>
    rw [decide_eq_false (fun h => by have h1 : delay = 0 := congrArg (fun l => at_ l 2) h; exact hdelay h1)]
    exact mclean_5_delay delay gen tick pass phase active r0 r1 w0 w1 p0 p1 sdelay sgen sw flip _ w (by simpa using hdelay) rfl
  subst hdelay
  cases pass
  case true =>
    rw [decide_eq_false (fun h => by have h1 : (1 : Int) = 0 := congrArg (fun l => at_ l 5) h; omega)]
    exact mclean_5_pass gen tick phase active r0 r1 w0 w1 p0 p1 sdelay sgen sw flip _ w rfl
  by_cases htick : tick = 0
  case neg =>
    rw [decide_eq_false (fun h => by have h1 : tick = 0 := congrArg (fun l => at_ l 4) h; exact htick h1)]
    exact mclean_5_tick gen tick phase active r0 r1 w0 w1 p0 p1 sdelay sgen sw flip _ w (by simpa using htick) rfl
  subst htick
  obtain ⟨q, hq, hqi⟩ := eq25 hr fits_zero
  have hqz : q = decide (zap (Rc.all ⟨5, 0, 0, 0, gen, 0, false, phase, active, r0, r1, w0, w1, p0, p1, sdelay, sgen, sw, flip⟩) [3] = zeros) := by
    by_cases e : zap (Rc.all ⟨5, 0, 0, 0, gen, 0, false, phase, active, r0, r1, w0, w1, p0, p1, sdelay, sgen, sw, flip⟩) [3] = zeros
    · rw [decide_eq_true e]
      refine hqi.2 ?_
      have e6 : phase = 0 := congrArg (fun l => at_ l 6) e
      have e7 : active = 0 := congrArg (fun l => at_ l 7) e
      have e8 : r0 = 0 := congrArg (fun l => at_ l 8) e
      have e9 : r1 = 0 := congrArg (fun l => at_ l 9) e
      have e10 : w0 = 0 := congrArg (fun l => at_ l 10) e
      have e11 : w1 = 0 := congrArg (fun l => at_ l 11) e
      have e12 : p0 = false := by
        have h1 : bitI p0 = 0 := congrArg (fun l => at_ l 12) e
        cases p0
        · rfl
        · exact absurd h1 (by decide)
      have e13 : p1 = false := by
        have h1 : bitI p1 = 0 := congrArg (fun l => at_ l 13) e
        cases p1
        · rfl
        · exact absurd h1 (by decide)
      have e14 : sdelay = 0 := congrArg (fun l => at_ l 14) e
      have e15 : sgen = 0 := congrArg (fun l => at_ l 15) e
      have e16 : sw = 0 := congrArg (fun l => at_ l 16) e
      have e17 : flip = 0 := congrArg (fun l => at_ l 17) e
      subst e6 e7 e8 e9 e10 e11 e12 e13 e14 e15 e16 e17
      rfl
    · rw [decide_eq_false e]
      cases q
      · rfl
      · refine absurd ?_ e
        have h1 := hqi.1 rfl
        simp [stL, zeroR] at h1
        obtain ⟨rfl, rfl, rfl, rfl, rfl, rfl, rfl, rfl, rfl, rfl, rfl, rfl⟩ := h1
        rfl
  rw [← hqz]
  exact mclean_5_end gen phase active r0 r1 w0 w1 p0 p1 sdelay sgen sw flip _ _ q w rfl rfl hq
set_option maxRecDepth 100000 in
set_option maxHeartbeats 2000000 in
theorem mclean_6_rev (rev : Int) (cnt : Int) (delay : Int) (gen : Int) (tick : Int) (pass : Bool) (phase : Int) (active : Int) (r0 : Int) (r1 : Int) (w0 : Int) (w1 : Int) (p0 : Bool) (p1 : Bool) (sdelay : Int) (sgen : Int) (sw : Int) (flip : Int) (cs : Array Value) (w : World) (hne : (rev != 0) = true) (hcs : cs = recC ⟨6, rev, cnt, delay, gen, tick, pass, phase, active, r0, r1, w0, w1, p0, p1, sdelay, sgen, sw, flip⟩) : Calls Tryd.prog 21 #[.agg cs] w fun e w' => e = .returned (.bool false) ∧ Below w.heap.size w w' := by
  have HC := Lib.hid hcs
  clear hcs
  go_enter Tryd.func21, Tryd.ntmps21
  go_upto_region 1 with (fail)
  refine name_w (fun W => Rw W w.heap.size cs 27 ∧ Below w.heap.size w W) ⟨Rw.new _ _ _, (Below.refl _ _).alloc (Nat.le_refl _) _⟩ ?_
  rintro W ⟨hR, hb⟩
  have HB := Lib.hid hb
  have c0 : W.cell? ⟨w.heap.size, 0, none⟩ = some (.int .i64 6) := by rw [hR.cell 0, HC.out]; rfl
  have c1 : W.cell? ⟨w.heap.size, 1, none⟩ = some (.int .i64 rev) := by rw [hR.cell 1, HC.out]; rfl
  clear hR hb
  go_wp2
  go_ret
  exact ⟨rfl, HB.out⟩
set_option maxRecDepth 100000 in
set_option maxHeartbeats 2000000 in
theorem mclean_6_cnt (cnt : Int) (delay : Int) (gen : Int) (tick : Int) (pass : Bool) (phase : Int) (active : Int) (r0 : Int) (r1 : Int) (w0 : Int) (w1 : Int) (p0 : Bool) (p1 : Bool) (sdelay : Int) (sgen : Int) (sw : Int) (flip : Int) (cs : Array Value) (w : World) (hne : (cnt != 0) = true) (hcs : cs = recC ⟨6, 0, cnt, delay, gen, tick, pass, phase, active, r0, r1, w0, w1, p0, p1, sdelay, sgen, sw, flip⟩) : Calls Tryd.prog 21 #[.agg cs] w fun e w' => e = .returned (.bool false) ∧ Below w.heap.size w w' := by
  have HC := Lib.hid hcs
  clear hcs
  go_enter Tryd.func21, Tryd.ntmps21
  go_upto_region 1 with (fail)
  refine name_w (fun W => Rw W w.heap.size cs 27 ∧ Below w.heap.size w W) ⟨Rw.new _ _ _, (Below.refl _ _).alloc (Nat.le_refl _) _⟩ ?_
  rintro W ⟨hR, hb⟩
  have HB := Lib.hid hb
  have c0 : W.cell? ⟨w.heap.size, 0, none⟩ = some (.int .i64 6) := by rw [hR.cell 0, HC.out]; rfl
  have c1 : W.cell? ⟨w.heap.size, 1, none⟩ = some (.int .i64 0) := by rw [hR.cell 1, HC.out]; rfl
  have c2 : W.cell? ⟨w.heap.size, 2, none⟩ = some (.int .i64 cnt) := by rw [hR.cell 2, HC.out]; rfl
  clear hR hb
  go_wp2
  go_ret
  exact ⟨rfl, HB.out⟩
set_option maxRecDepth 100000 in
set_option maxHeartbeats 2000000 in
theorem mclean_6_delay (delay : Int) (gen : Int) (tick : Int) (pass : Bool) (phase : Int) (active : Int) (r0 : Int) (r1 : Int) (w0 : Int) (w1 : Int) (p0 : Bool) (p1 : Bool) (sdelay : Int) (sgen : Int) (sw : Int) (flip : Int) (cs : Array Value) (w : World) (hne : (delay != 0) = true) (hcs : cs = recC ⟨6, 0, 0, delay, gen, tick, pass, phase, active, r0, r1, w0, w1, p0, p1, sdelay, sgen, sw, flip⟩) : Calls Tryd.prog 21 #[.agg cs] w fun e w' => e = .returned (.bool false) ∧ Below w.heap.size w w' := by
  have HC := Lib.hid hcs
  clear hcs
  go_enter Tryd.func21, Tryd.ntmps21
  go_upto_region 1 with (fail)
  refine name_w (fun W => Rw W w.heap.size cs 27 ∧ Below w.heap.size w W) ⟨Rw.new _ _ _, (Below.refl _ _).alloc (Nat.le_refl _) _⟩ ?_
  rintro W ⟨hR, hb⟩
  have HB := Lib.hid hb
  have c0 : W.cell? ⟨w.heap.size, 0, none⟩ = some (.int .i64 6) := by rw [hR.cell 0, HC.out]; rfl
  have c1 : W.cell? ⟨w.heap.size, 1, none⟩ = some (.int .i64 0) := by rw [hR.cell 1, HC.out]; rfl
  have c2 : W.cell? ⟨w.heap.size, 2, none⟩ = some (.int .i64 0) := by rw [hR.cell 2, HC.out]; rfl
  have c3 : W.cell? ⟨w.heap.size, 3, none⟩ = some (.int .i64 delay) := by rw [hR.cell 3, HC.out]; rfl
  clear hR hb
  go_wp2
  go_ret
  exact ⟨rfl, HB.out⟩
set_option maxRecDepth 100000 in
set_option maxHeartbeats 2000000 in
theorem mclean_6_pass (gen : Int) (tick : Int) (phase : Int) (active : Int) (r0 : Int) (r1 : Int) (w0 : Int) (w1 : Int) (p0 : Bool) (p1 : Bool) (sdelay : Int) (sgen : Int) (sw : Int) (flip : Int) (cs : Array Value) (w : World) (hcs : cs = recC ⟨6, 0, 0, 0, gen, tick, true, phase, active, r0, r1, w0, w1, p0, p1, sdelay, sgen, sw, flip⟩) : Calls Tryd.prog 21 #[.agg cs] w fun e w' => e = .returned (.bool false) ∧ Below w.heap.size w w' := by
  have HC := Lib.hid hcs
  clear hcs
  go_enter Tryd.func21, Tryd.ntmps21
  go_upto_region 1 with (fail)
  refine name_w (fun W => Rw W w.heap.size cs 27 ∧ Below w.heap.size w W) ⟨Rw.new _ _ _, (Below.refl _ _).alloc (Nat.le_refl _) _⟩ ?_
  rintro W ⟨hR, hb⟩
  have HB := Lib.hid hb
  have c0 : W.cell? ⟨w.heap.size, 0, none⟩ = some (.int .i64 6) := by rw [hR.cell 0, HC.out]; rfl
  have c1 : W.cell? ⟨w.heap.size, 1, none⟩ = some (.int .i64 0) := by rw [hR.cell 1, HC.out]; rfl
  have c2 : W.cell? ⟨w.heap.size, 2, none⟩ = some (.int .i64 0) := by rw [hR.cell 2, HC.out]; rfl
  have c3 : W.cell? ⟨w.heap.size, 3, none⟩ = some (.int .i64 0) := by rw [hR.cell 3, HC.out]; rfl
  have c6 : W.cell? ⟨w.heap.size, 6, none⟩ = some (.bool true) := by rw [hR.cell 6, HC.out]; rfl
  clear hR hb
  go_wp2
  go_ret
  exact ⟨rfl, HB.out⟩
set_option maxRecDepth 100000 in
set_option maxHeartbeats 2000000 in
theorem mclean_6_tick (gen : Int) (tick : Int) (phase : Int) (active : Int) (r0 : Int) (r1 : Int) (w0 : Int) (w1 : Int) (p0 : Bool) (p1 : Bool) (sdelay : Int) (sgen : Int) (sw : Int) (flip : Int) (cs : Array Value) (w : World) (hne : (tick != 0) = true) (hcs : cs = recC ⟨6, 0, 0, 0, gen, tick, false, phase, active, r0, r1, w0, w1, p0, p1, sdelay, sgen, sw, flip⟩) : Calls Tryd.prog 21 #[.agg cs] w fun e w' => e = .returned (.bool false) ∧ Below w.heap.size w w' := by
  have HC := Lib.hid hcs
  clear hcs
  go_enter Tryd.func21, Tryd.ntmps21
  go_upto_region 1 with (fail)
  refine name_w (fun W => Rw W w.heap.size cs 27 ∧ Below w.heap.size w W) ⟨Rw.new _ _ _, (Below.refl _ _).alloc (Nat.le_refl _) _⟩ ?_
  rintro W ⟨hR, hb⟩
  have HB := Lib.hid hb
  have c0 : W.cell? ⟨w.heap.size, 0, none⟩ = some (.int .i64 6) := by rw [hR.cell 0, HC.out]; rfl
  have c1 : W.cell? ⟨w.heap.size, 1, none⟩ = some (.int .i64 0) := by rw [hR.cell 1, HC.out]; rfl
  have c2 : W.cell? ⟨w.heap.size, 2, none⟩ = some (.int .i64 0) := by rw [hR.cell 2, HC.out]; rfl
  have c3 : W.cell? ⟨w.heap.size, 3, none⟩ = some (.int .i64 0) := by rw [hR.cell 3, HC.out]; rfl
  have c6 : W.cell? ⟨w.heap.size, 6, none⟩ = some (.bool false) := by rw [hR.cell 6, HC.out]; rfl
  have c5 : W.cell? ⟨w.heap.size, 5, none⟩ = some (.int .i64 tick) := by rw [hR.cell 5, HC.out]; rfl
  clear hR hb
  go_wp2
  go_ret
  exact ⟨rfl, HB.out⟩
set_option maxRecDepth 100000 in
set_option maxHeartbeats 2000000 in
theorem mclean_6_end (gen : Int) (phase : Int) (active : Int) (r0 : Int) (r1 : Int) (w0 : Int) (w1 : Int) (p0 : Bool) (p1 : Bool) (sdelay : Int) (sgen : Int) (sw : Int) (flip : Int) (cs zs : Array Value) (q : Bool) (w : World) (hcs : cs = recC ⟨6, 0, 0, 0, gen, 0, false, phase, active, r0, r1, w0, w1, p0, p1, sdelay, sgen, sw, flip⟩) (hzs : zs = stC zeroR) (hq : ∀ W, (Op.equalIn 10000 25 (.agg #[.int .i64 phase, .int .i64 active, .int .i64 r0, .int .i64 r1, .int .i64 w0, .int .i64 w1, .bool p0, .bool p1, .int .i64 sdelay, .int .i64 sgen, .int .i64 sw, .int .i64 flip]) (.agg zs)).run Tryd.prog W = .ok q W) : Calls Tryd.prog 21 #[.agg cs] w fun e w' => e = .returned (.bool q) ∧ Below w.heap.size w w' := by
  have HZ := Lib.hid hzs
  have HZZ : Hid (zs.size = 12) := Lib.hid (by rw [hzs]; rfl)
  clear hzs
  have HC := Lib.hid hcs
  clear hcs
  go_enter Tryd.func21, Tryd.ntmps21
  go_upto_region 1 with (fail)
  refine name_w (fun W => Rw W w.heap.size cs 27 ∧ Below w.heap.size w W) ⟨Rw.new _ _ _, (Below.refl _ _).alloc (Nat.le_refl _) _⟩ ?_
  rintro W ⟨hR, hb⟩
  have HB := Lib.hid hb
  have c0 : W.cell? ⟨w.heap.size, 0, none⟩ = some (.int .i64 6) := by rw [hR.cell 0, HC.out]; rfl
  have c1 : W.cell? ⟨w.heap.size, 1, none⟩ = some (.int .i64 0) := by rw [hR.cell 1, HC.out]; rfl
  have c2 : W.cell? ⟨w.heap.size, 2, none⟩ = some (.int .i64 0) := by rw [hR.cell 2, HC.out]; rfl
  have c3 : W.cell? ⟨w.heap.size, 3, none⟩ = some (.int .i64 0) := by rw [hR.cell 3, HC.out]; rfl
  have c6 : W.cell? ⟨w.heap.size, 6, none⟩ = some (.bool false) := by rw [hR.cell 6, HC.out]; rfl
  have c5 : W.cell? ⟨w.heap.size, 5, none⟩ = some (.int .i64 0) := by rw [hR.cell 5, HC.out]; rfl
  have c7 : W.cell? ⟨w.heap.size, 7, none⟩ = some (.int .i64 phase) := by rw [hR.cell 7, HC.out]; rfl
  have c8 : W.cell? ⟨w.heap.size, 8, none⟩ = some (.int .i64 active) := by rw [hR.cell 8, HC.out]; rfl
  have c9 : W.cell? ⟨w.heap.size, 9, none⟩ = some (.int .i64 r0) := by rw [hR.cell 9, HC.out]; rfl
  have c10 : W.cell? ⟨w.heap.size, 10, none⟩ = some (.int .i64 r1) := by rw [hR.cell 10, HC.out]; rfl
  have c11 : W.cell? ⟨w.heap.size, 11, none⟩ = some (.int .i64 w0) := by rw [hR.cell 11, HC.out]; rfl
  have c12 : W.cell? ⟨w.heap.size, 12, none⟩ = some (.int .i64 w1) := by rw [hR.cell 12, HC.out]; rfl
  have c13 : W.cell? ⟨w.heap.size, 13, none⟩ = some (.bool p0) := by rw [hR.cell 13, HC.out]; rfl
  have c14 : W.cell? ⟨w.heap.size, 14, none⟩ = some (.bool p1) := by rw [hR.cell 14, HC.out]; rfl
  have c15 : W.cell? ⟨w.heap.size, 15, none⟩ = some (.int .i64 sdelay) := by rw [hR.cell 15, HC.out]; rfl
  have c16 : W.cell? ⟨w.heap.size, 16, none⟩ = some (.int .i64 sgen) := by rw [hR.cell 16, HC.out]; rfl
  have c17 : W.cell? ⟨w.heap.size, 17, none⟩ = some (.int .i64 sw) := by rw [hR.cell 17, HC.out]; rfl
  have c18 : W.cell? ⟨w.heap.size, 18, none⟩ = some (.int .i64 flip) := by rw [hR.cell 18, HC.out]; rfl
  clear hR hb
  go_upto_region 7 with (fail)
  go_upto_region 8 with (refine wpList_plain rfl fun _ hK => wp_store_row 25 (.tmp 3) (.tmp 57) rfl W.heap.size _ rfl rfl 25 _ (Rw.new W _ 25) (by kernel_rfl) rfl (by simp [Value.oneCell']) (hK _ _ ?_); clear hK)
  refine name_w (fun W2 => Rw W2 W.heap.size zs 25 ∧ Below W.heap.size W W2) ⟨by rw [HZ.out]; exact (Rw.new W (stC zeroR) 25).set _, below_setRow ((Below.refl _ _).alloc (Nat.le_refl _) _) (Nat.le_refl _) _⟩ ?_
  rintro W2 ⟨hQ, hb2⟩
  have HQ := Lib.hid hQ
  have HLT : w.heap.size < W.heap.size := block_lt_of_cell c0
  have d0 : W2.cell? ⟨w.heap.size, 0, none⟩ = some (.int .i64 6) := (hb2.cell (p := ⟨w.heap.size, 0, none⟩) HLT).trans c0
  have d7 : W2.cell? ⟨w.heap.size, 7, none⟩ = some (.int .i64 phase) := (hb2.cell (p := ⟨w.heap.size, 7, none⟩) HLT).trans c7
  have d8 : W2.cell? ⟨w.heap.size, 8, none⟩ = some (.int .i64 active) := (hb2.cell (p := ⟨w.heap.size, 8, none⟩) HLT).trans c8
  have d9 : W2.cell? ⟨w.heap.size, 9, none⟩ = some (.int .i64 r0) := (hb2.cell (p := ⟨w.heap.size, 9, none⟩) HLT).trans c9
  have d10 : W2.cell? ⟨w.heap.size, 10, none⟩ = some (.int .i64 r1) := (hb2.cell (p := ⟨w.heap.size, 10, none⟩) HLT).trans c10
  have d11 : W2.cell? ⟨w.heap.size, 11, none⟩ = some (.int .i64 w0) := (hb2.cell (p := ⟨w.heap.size, 11, none⟩) HLT).trans c11
  have d12 : W2.cell? ⟨w.heap.size, 12, none⟩ = some (.int .i64 w1) := (hb2.cell (p := ⟨w.heap.size, 12, none⟩) HLT).trans c12
  have d13 : W2.cell? ⟨w.heap.size, 13, none⟩ = some (.bool p0) := (hb2.cell (p := ⟨w.heap.size, 13, none⟩) HLT).trans c13
  have d14 : W2.cell? ⟨w.heap.size, 14, none⟩ = some (.bool p1) := (hb2.cell (p := ⟨w.heap.size, 14, none⟩) HLT).trans c14
  have d15 : W2.cell? ⟨w.heap.size, 15, none⟩ = some (.int .i64 sdelay) := (hb2.cell (p := ⟨w.heap.size, 15, none⟩) HLT).trans c15
  have d16 : W2.cell? ⟨w.heap.size, 16, none⟩ = some (.int .i64 sgen) := (hb2.cell (p := ⟨w.heap.size, 16, none⟩) HLT).trans c16
  have d17 : W2.cell? ⟨w.heap.size, 17, none⟩ = some (.int .i64 sw) := (hb2.cell (p := ⟨w.heap.size, 17, none⟩) HLT).trans c17
  have d18 : W2.cell? ⟨w.heap.size, 18, none⟩ = some (.int .i64 flip) := (hb2.cell (p := ⟨w.heap.size, 18, none⟩) HLT).trans c18
  have HB2 := Lib.hid (HB.out.trans (hb2.mono HB.out.size))
  clear hb2 hQ HLT c0 c1 c2 c3 c6 c5 c7 c8 c9 c10 c11 c12 c13 c14 c15 c16 c17 c18
  go_wp2_with (refine wpList_load_any (by rfl) 25 (.tmp 3) rfl W.heap.size rfl 25 zs (0, 0) _ HQ.out Tryd.underlying25 rfl (by rw [HZZ.out]; exact i12) ?_)
  go_ret
  exact ⟨rfl, HB2.out⟩
theorem mclean_6 (r : Rc) (w : World) (hr : FitsR r) (hk : r.kind = 6) : Calls Tryd.prog 21 #[recV r] w fun e w' => e = .returned (.bool (decide (zap r.all [3] = zeros))) ∧ Below w.heap.size w w' := by
  obtain ⟨k, rev, cnt, delay, gen, tick, pass, phase, active, r0, r1, w0, w1, p0, p1, sdelay, sgen, sw, flip⟩ := r
  obtain rfl : k = 6 := hk
  by_cases hrev : rev = 0
  case neg =>
    rw [decide_eq_false (fun h => by have h1 : rev = 0 := congrArg (fun l => at_ l 0) h; exact hrev h1)]
    exact mclean_6_rev rev cnt delay gen tick pass phase active r0 r1 w0 w1 p0 p1 sdelay sgen sw flip _ w (by simpa using hrev) rfl
  subst hrev
  by_cases hcnt : cnt = 0
  case neg =>
    rw [decide_eq_false (fun h => by have h1 : cnt = 0 := congrArg (fun l => at_ l 1) h; exact hcnt h1)]
    exact mclean_6_cnt cnt delay gen tick pass phase active r0 r1 w0 w1 p0 p1 sdelay sgen sw flip _ w (by simpa using hcnt) rfl
  subst hcnt
  by_cases hdelay : delay = 0
  case neg =>
    rw [decide_eq_false (fun h => by have h1 : delay = 0 := congrArg (fun l => at_ l 2) h; exact hdelay h1)]
    exact mclean_6_delay delay gen tick pass phase active r0 r1 w0 w1 p0 p1 sdelay sgen sw flip _ w (by simpa using hdelay) rfl
  subst hdelay
  cases pass
  case true =>
    rw [decide_eq_false (fun h => by have h1 : (1 : Int) = 0 := congrArg (fun l => at_ l 5) h; omega)]
    exact mclean_6_pass gen tick phase active r0 r1 w0 w1 p0 p1 sdelay sgen sw flip _ w rfl
  by_cases htick : tick = 0
  case neg =>
    rw [decide_eq_false (fun h => by have h1 : tick = 0 := congrArg (fun l => at_ l 4) h; exact htick h1)]
    exact mclean_6_tick gen tick phase active r0 r1 w0 w1 p0 p1 sdelay sgen sw flip _ w (by simpa using htick) rfl
  subst htick
  obtain ⟨q, hq, hqi⟩ := eq25 hr fits_zero
  have hqz : q = decide (zap (Rc.all ⟨6, 0, 0, 0, gen, 0, false, phase, active, r0, r1, w0, w1, p0, p1, sdelay, sgen, sw, flip⟩) [3] = zeros) := by
    by_cases e : zap (Rc.all ⟨6, 0, 0, 0, gen, 0, false, phase, active, r0, r1, w0, w1, p0, p1, sdelay, sgen, sw, flip⟩) [3] = zeros
    · rw [decide_eq_true e]
      refine hqi.2 ?_
      have e6 : phase = 0 := congrArg (fun l => at_ l 6) e
      have e7 : active = 0 := congrArg (fun l => at_ l 7) e
      have e8 : r0 = 0 := congrArg (fun l => at_ l 8) e
      have e9 : r1 = 0 := congrArg (fun l => at_ l 9) e
      have e10 : w0 = 0 := congrArg (fun l => at_ l 10) e
      have e11 : w1 = 0 := congrArg (fun l => at_ l 11) e
      have e12 : p0 = false := by
        have h1 : bitI p0 = 0 := congrArg (fun l => at_ l 12) e
        cases p0
        · rfl
        · exact absurd h1 (by decide)
      have e13 : p1 = false := by
        have h1 : bitI p1 = 0 := congrArg (fun l => at_ l 13) e
        cases p1
        · rfl
        · exact absurd h1 (by decide)
      have e14 : sdelay = 0 := congrArg (fun l => at_ l 14) e
      have e15 : sgen = 0 := congrArg (fun l => at_ l 15) e
      have e16 : sw = 0 := congrArg (fun l => at_ l 16) e
      have e17 : flip = 0 := congrArg (fun l => at_ l 17) e
      subst e6 e7 e8 e9 e10 e11 e12 e13 e14 e15 e16 e17
      rfl
    · rw [decide_eq_false e]
      cases q
      · rfl
      · refine absurd ?_ e
        have h1 := hqi.1 rfl
        simp [stL, zeroR] at h1
        obtain ⟨rfl, rfl, rfl, rfl, rfl, rfl, rfl, rfl, rfl, rfl, rfl, rfl⟩ := h1
        rfl
  rw [← hqz]
  exact mclean_6_end gen phase active r0 r1 w0 w1 p0 p1 sdelay sgen sw flip _ _ q w rfl rfl hq
set_option maxRecDepth 100000 in
set_option maxHeartbeats 2000000 in
theorem mclean_7_rev (rev : Int) (cnt : Int) (delay : Int) (gen : Int) (tick : Int) (pass : Bool) (phase : Int) (active : Int) (r0 : Int) (r1 : Int) (w0 : Int) (w1 : Int) (p0 : Bool) (p1 : Bool) (sdelay : Int) (sgen : Int) (sw : Int) (flip : Int) (cs : Array Value) (w : World) (hne : (rev != 0) = true) (hcs : cs = recC ⟨7, rev, cnt, delay, gen, tick, pass, phase, active, r0, r1, w0, w1, p0, p1, sdelay, sgen, sw, flip⟩) : Calls Tryd.prog 21 #[.agg cs] w fun e w' => e = .returned (.bool false) ∧ Below w.heap.size w w' := by
  have HC := Lib.hid hcs
  clear hcs
  go_enter Tryd.func21, Tryd.ntmps21
  go_upto_region 1 with (fail)
  refine name_w (fun W => Rw W w.heap.size cs 27 ∧ Below w.heap.size w W) ⟨Rw.new _ _ _, (Below.refl _ _).alloc (Nat.le_refl _) _⟩ ?_
  rintro W ⟨hR, hb⟩
  have HB := Lib.hid hb
  have c0 : W.cell? ⟨w.heap.size, 0, none⟩ = some (.int .i64 7) := by rw [hR.cell 0, HC.out]; rfl
  have c1 : W.cell? ⟨w.heap.size, 1, none⟩ = some (.int .i64 rev) := by rw [hR.cell 1, HC.out]; rfl
  clear hR hb
  go_wp2
  go_ret
  exact ⟨rfl, HB.out⟩
set_option maxRecDepth 100000 in
set_option maxHeartbeats 2000000 in
theorem mclean_7_cnt (cnt : Int) (delay : Int) (gen : Int) (tick : Int) (pass : Bool) (phase : Int) (active : Int) (r0 : Int) (r1 : Int) (w0 : Int) (w1 : Int) (p0 : Bool) (p1 : Bool) (sdelay : Int) (sgen : Int) (sw : Int) (flip : Int) (cs : Array Value) (w : World) (hne : (cnt != 0) = true) (hcs : cs = recC ⟨7, 0, cnt, delay, gen, tick, pass, phase, active, r0, r1, w0, w1, p0, p1, sdelay, sgen, sw, flip⟩) : Calls Tryd.prog 21 #[.agg cs] w fun e w' => e = .returned (.bool false) ∧ Below w.heap.size w w' := by
  have HC := Lib.hid hcs
  clear hcs
  go_enter Tryd.func21, Tryd.ntmps21
  go_upto_region 1 with (fail)
  refine name_w (fun W => Rw W w.heap.size cs 27 ∧ Below w.heap.size w W) ⟨Rw.new _ _ _, (Below.refl _ _).alloc (Nat.le_refl _) _⟩ ?_
  rintro W ⟨hR, hb⟩
  have HB := Lib.hid hb
  have c0 : W.cell? ⟨w.heap.size, 0, none⟩ = some (.int .i64 7) := by rw [hR.cell 0, HC.out]; rfl
  have c1 : W.cell? ⟨w.heap.size, 1, none⟩ = some (.int .i64 0) := by rw [hR.cell 1, HC.out]; rfl
  have c2 : W.cell? ⟨w.heap.size, 2, none⟩ = some (.int .i64 cnt) := by rw [hR.cell 2, HC.out]; rfl
  clear hR hb
  go_wp2
  go_ret
  exact ⟨rfl, HB.out⟩
set_option maxRecDepth 100000 in
set_option maxHeartbeats 2000000 in
theorem mclean_7_delay (delay : Int) (gen : Int) (tick : Int) (pass : Bool) (phase : Int) (active : Int) (r0 : Int) (r1 : Int) (w0 : Int) (w1 : Int) (p0 : Bool) (p1 : Bool) (sdelay : Int) (sgen : Int) (sw : Int) (flip : Int) (cs : Array Value) (w : World) (hne : (delay != 0) = true) (hcs : cs = recC ⟨7, 0, 0, delay, gen, tick, pass, phase, active, r0, r1, w0, w1, p0, p1, sdelay, sgen, sw, flip⟩) : Calls Tryd.prog 21 #[.agg cs] w fun e w' => e = .returned (.bool false) ∧ Below w.heap.size w w' := by
  have HC := Lib.hid hcs
  clear hcs
  go_enter Tryd.func21, Tryd.ntmps21
  go_upto_region 1 with (fail)
  refine name_w (fun W => Rw W w.heap.size cs 27 ∧ Below w.heap.size w W) ⟨Rw.new _ _ _, (Below.refl _ _).alloc (Nat.le_refl _) _⟩ ?_
  rintro W ⟨hR, hb⟩
  have HB := Lib.hid hb
  have c0 : W.cell? ⟨w.heap.size, 0, none⟩ = some (.int .i64 7) := by rw [hR.cell 0, HC.out]; rfl
  have c1 : W.cell? ⟨w.heap.size, 1, none⟩ = some (.int .i64 0) := by rw [hR.cell 1, HC.out]; rfl
  have c2 : W.cell? ⟨w.heap.size, 2, none⟩ = some (.int .i64 0) := by rw [hR.cell 2, HC.out]; rfl
  have c3 : W.cell? ⟨w.heap.size, 3, none⟩ = some (.int .i64 delay) := by rw [hR.cell 3, HC.out]; rfl
  clear hR hb
  go_wp2
  go_ret
  exact ⟨rfl, HB.out⟩
set_option maxRecDepth 100000 in
set_option maxHeartbeats 2000000 in
theorem mclean_7_pass (gen : Int) (tick : Int) (phase : Int) (active : Int) (r0 : Int) (r1 : Int) (w0 : Int) (w1 : Int) (p0 : Bool) (p1 : Bool) (sdelay : Int) (sgen : Int) (sw : Int) (flip : Int) (cs : Array Value) (w : World) (hcs : cs = recC ⟨7, 0, 0, 0, gen, tick, true, phase, active, r0, r1, w0, w1, p0, p1, sdelay, sgen, sw, flip⟩) : Calls Tryd.prog 21 #[.agg cs] w fun e w' => e = .returned (.bool false) ∧ Below w.heap.size w w' := by
  have HC := Lib.hid hcs
  clear hcs
  go_enter Tryd.func21, Tryd.ntmps21
  go_upto_region 1 with (fail)
  refine name_w (fun W => Rw W w.heap.size cs 27 ∧ Below w.heap.size w W) ⟨Rw.new _ _ _, (Below.refl _ _).alloc (Nat.le_refl _) _⟩ ?_
  rintro W ⟨hR, hb⟩
  have HB := Lib.hid hb
  have c0 : W.cell? ⟨w.heap.size, 0, none⟩ = some (.int .i64 7) := by rw [hR.cell 0, HC.out]; rfl
  have c1 : W.cell? ⟨w.heap.size, 1, none⟩ = some (.int .i64 0) := by rw [hR.cell 1, HC.out]; rfl
  have c2 : W.cell? ⟨w.heap.size, 2, none⟩ = some (.int .i64 0) := by rw [hR.cell 2, HC.out]; rfl
  have c3 : W.cell? ⟨w.heap.size, 3, none⟩ = some (.int .i64 0) := by rw [hR.cell 3, HC.out]; rfl
  have c6 : W.cell? ⟨w.heap.size, 6, none⟩ = some (.bool true) := by rw [hR.cell 6, HC.out]; rfl
  clear hR hb
  go_wp2
  go_ret
  exact ⟨rfl, HB.out⟩
set_option maxRecDepth 100000 in
set_option maxHeartbeats 2000000 in
theorem mclean_7_tick (gen : Int) (tick : Int) (phase : Int) (active : Int) (r0 : Int) (r1 : Int) (w0 : Int) (w1 : Int) (p0 : Bool) (p1 : Bool) (sdelay : Int) (sgen : Int) (sw : Int) (flip : Int) (cs : Array Value) (w : World) (hne : (tick != 0) = true) (hcs : cs = recC ⟨7, 0, 0, 0, gen, tick, false, phase, active, r0, r1, w0, w1, p0, p1, sdelay, sgen, sw, flip⟩) : Calls Tryd.prog 21 #[.agg cs] w fun e w' => e = .returned (.bool false) ∧ Below w.heap.size w w' := by
  have HC := Lib.hid hcs
  clear hcs
  go_enter Tryd.func21, Tryd.ntmps21
  go_upto_region 1 with (fail)
  refine name_w (fun W => Rw W w.heap.size cs 27 ∧ Below w.heap.size w W) ⟨Rw.new _ _ _, (Below.refl _ _).alloc (Nat.le_refl _) _⟩ ?_
  rintro W ⟨hR, hb⟩
  have HB := Lib.hid hb
  have c0 : W.cell? ⟨w.heap.size, 0, none⟩ = some (.int .i64 7) := by rw [hR.cell 0, HC.out]; rfl
  have c1 : W.cell? ⟨w.heap.size, 1, none⟩ = some (.int .i64 0) := by rw [hR.cell 1, HC.out]; rfl
  have c2 : W.cell? ⟨w.heap.size, 2, none⟩ = some (.int .i64 0) := by rw [hR.cell 2, HC.out]; rfl
  have c3 : W.cell? ⟨w.heap.size, 3, none⟩ = some (.int .i64 0) := by rw [hR.cell 3, HC.out]; rfl
  have c6 : W.cell? ⟨w.heap.size, 6, none⟩ = some (.bool false) := by rw [hR.cell 6, HC.out]; rfl
  have c5 : W.cell? ⟨w.heap.size, 5, none⟩ = some (.int .i64 tick) := by rw [hR.cell 5, HC.out]; rfl
  clear hR hb
  go_wp2
  go_ret
  exact ⟨rfl, HB.out⟩
set_option maxRecDepth 100000 in
set_option maxHeartbeats 2000000 in
theorem mclean_7_end (gen : Int) (phase : Int) (active : Int) (r0 : Int) (r1 : Int) (w0 : Int) (w1 : Int) (p0 : Bool) (p1 : Bool) (sdelay : Int) (sgen : Int) (sw : Int) (flip : Int) (cs zs : Array Value) (q : Bool) (w : World) (hcs : cs = recC ⟨7, 0, 0, 0, gen, 0, false, phase, active, r0, r1, w0, w1, p0, p1, sdelay, sgen, sw, flip⟩) (hzs : zs = stC zeroR) (hq : ∀ W, (Op.equalIn 10000 25 (.agg #[.int .i64 phase, .int .i64 active, .int .i64 r0, .int .i64 r1, .int .i64 w0, .int .i64 w1, .bool p0, .bool p1, .int .i64 sdelay, .int .i64 sgen, .int .i64 sw, .int .i64 flip]) (.agg zs)).run Tryd.prog W = .ok q W) : Calls Tryd.prog 21 #[.agg cs] w fun e w' => e = .returned (.bool q) ∧ Below w.heap.size w w' := by
  have HZ := Lib.hid hzs
  have HZZ : Hid (zs.size = 12) := Lib.hid (by rw [hzs]; rfl)
  clear hzs
  have HC := Lib.hid hcs
  clear hcs
  go_enter Tryd.func21, Tryd.ntmps21
  go_upto_region 1 with (fail)
  refine name_w (fun W => Rw W w.heap.size cs 27 ∧ Below w.heap.size w W) ⟨Rw.new _ _ _, (Below.refl _ _).alloc (Nat.le_refl _) _⟩ ?_
  rintro W ⟨hR, hb⟩
  have HB := Lib.hid hb
  have c0 : W.cell? ⟨w.heap.size, 0, none⟩ = some (.int .i64 7) := by rw [hR.cell 0, HC.out]; rfl
  have c1 : W.cell? ⟨w.heap.size, 1, none⟩ = some (.int .i64 0) := by rw [hR.cell 1, HC.out]; rfl
  have c2 : W.cell? ⟨w.heap.size, 2, none⟩ = some (.int .i64 0) := by rw [hR.cell 2, HC.out]; rfl
  have c3 : W.cell? ⟨w.heap.size, 3, none⟩ = some (.int .i64 0) := by rw [hR.cell 3, HC.out]; rfl
  have c6 : W.cell? ⟨w.heap.size, 6, none⟩ = some (.bool false) := by rw [hR.cell 6, HC.out]; rfl
  have c5 : W.cell? ⟨w.heap.size, 5, none⟩ = some (.int .i64 0) := by rw [hR.cell 5, HC.out]; rfl
  have c7 : W.cell? ⟨w.heap.size, 7, none⟩ = some (.int .i64 phase) := by rw [hR.cell 7, HC.out]; rfl
  have c8 : W.cell? ⟨w.heap.size, 8, none⟩ = some (.int .i64 active) := by rw [hR.cell 8, HC.out]; rfl
  have c9 : W.cell? ⟨w.heap.size, 9, none⟩ = some (.int .i64 r0) := by rw [hR.cell 9, HC.out]; rfl
  have c10 : W.cell? ⟨w.heap.size, 10, none⟩ = some (.int .i64 r1) := by rw [hR.cell 10, HC.out]; rfl
  have c11 : W.cell? ⟨w.heap.size, 11, none⟩ = some (.int .i64 w0) := by rw [hR.cell 11, HC.out]; rfl
  have c12 : W.cell? ⟨w.heap.size, 12, none⟩ = some (.int .i64 w1) := by rw [hR.cell 12, HC.out]; rfl
  have c13 : W.cell? ⟨w.heap.size, 13, none⟩ = some (.bool p0) := by rw [hR.cell 13, HC.out]; rfl
  have c14 : W.cell? ⟨w.heap.size, 14, none⟩ = some (.bool p1) := by rw [hR.cell 14, HC.out]; rfl
  have c15 : W.cell? ⟨w.heap.size, 15, none⟩ = some (.int .i64 sdelay) := by rw [hR.cell 15, HC.out]; rfl
  have c16 : W.cell? ⟨w.heap.size, 16, none⟩ = some (.int .i64 sgen) := by rw [hR.cell 16, HC.out]; rfl
  have c17 : W.cell? ⟨w.heap.size, 17, none⟩ = some (.int .i64 sw) := by rw [hR.cell 17, HC.out]; rfl
  have c18 : W.cell? ⟨w.heap.size, 18, none⟩ = some (.int .i64 flip) := by rw [hR.cell 18, HC.out]; rfl
  clear hR hb
  go_upto_region 7 with (fail)
  go_upto_region 8 with (refine wpList_plain rfl fun _ hK => wp_store_row 25 (.tmp 3) (.tmp 57) rfl W.heap.size _ rfl rfl 25 _ (Rw.new W _ 25) (by kernel_rfl) rfl (by simp [Value.oneCell']) (hK _ _ ?_); clear hK)
  refine name_w (fun W2 => Rw W2 W.heap.size zs 25 ∧ Below W.heap.size W W2) ⟨by rw [HZ.out]; exact (Rw.new W (stC zeroR) 25).set _, below_setRow ((Below.refl _ _).alloc (Nat.le_refl _) _) (Nat.le_refl _) _⟩ ?_
  rintro W2 ⟨hQ, hb2⟩
  have HQ := Lib.hid hQ
  have HLT : w.heap.size < W.heap.size := block_lt_of_cell c0
  have d0 : W2.cell? ⟨w.heap.size, 0, none⟩ = some (.int .i64 7) := (hb2.cell (p := ⟨w.heap.size, 0, none⟩) HLT).trans c0
  have d7 : W2.cell? ⟨w.heap.size, 7, none⟩ = some (.int .i64 phase) := (hb2.cell (p := ⟨w.heap.size, 7, none⟩) HLT).trans c7
  have d8 : W2.cell? ⟨w.heap.size, 8, none⟩ = some (.int .i64 active) := (hb2.cell (p := ⟨w.heap.size, 8, none⟩) HLT).trans c8
  have d9 : W2.cell? ⟨w.heap.size, 9, none⟩ = some (.int .i64 r0) := (hb2.cell (p := ⟨w.heap.size, 9, none⟩) HLT).trans c9
  have d10 : W2.cell? ⟨w.heap.size, 10, none⟩ = some (.int .i64 r1) := (hb2.cell (p := ⟨w.heap.size, 10, none⟩) HLT).trans c10
  have d11 : W2.cell? ⟨w.heap.size, 11, none⟩ = some (.int .i64 w0) := (hb2.cell (p := ⟨w.heap.size, 11, none⟩) HLT).trans c11
  have d12 : W2.cell? ⟨w.heap.size, 12, none⟩ = some (.int .i64 w1) := (hb2.cell (p := ⟨w.heap.size, 12, none⟩) HLT).trans c12
  have d13 : W2.cell? ⟨w.heap.size, 13, none⟩ = some (.bool p0) := (hb2.cell (p := ⟨w.heap.size, 13, none⟩) HLT).trans c13
  have d14 : W2.cell? ⟨w.heap.size, 14, none⟩ = some (.bool p1) := (hb2.cell (p := ⟨w.heap.size, 14, none⟩) HLT).trans c14
  have d15 : W2.cell? ⟨w.heap.size, 15, none⟩ = some (.int .i64 sdelay) := (hb2.cell (p := ⟨w.heap.size, 15, none⟩) HLT).trans c15
  have d16 : W2.cell? ⟨w.heap.size, 16, none⟩ = some (.int .i64 sgen) := (hb2.cell (p := ⟨w.heap.size, 16, none⟩) HLT).trans c16
  have d17 : W2.cell? ⟨w.heap.size, 17, none⟩ = some (.int .i64 sw) := (hb2.cell (p := ⟨w.heap.size, 17, none⟩) HLT).trans c17
  have d18 : W2.cell? ⟨w.heap.size, 18, none⟩ = some (.int .i64 flip) := (hb2.cell (p := ⟨w.heap.size, 18, none⟩) HLT).trans c18
  have HB2 := Lib.hid (HB.out.trans (hb2.mono HB.out.size))
  clear hb2 hQ HLT c0 c1 c2 c3 c6 c5 c7 c8 c9 c10 c11 c12 c13 c14 c15 c16 c17 c18
  go_wp2_with (refine wpList_load_any (by rfl) 25 (.tmp 3) rfl W.heap.size rfl 25 zs (0, 0) _ HQ.out Tryd.underlying25 rfl (by rw [HZZ.out]; exact i12) ?_)
  go_ret
  exact ⟨rfl, HB2.out⟩
theorem mclean_7 (r : Rc) (w : World) (hr : FitsR r) (hk : r.kind = 7) : Calls Tryd.prog 21 #[recV r] w fun e w' => e = .returned (.bool (decide (zap r.all [3] = zeros))) ∧ Below w.heap.size w w' := by
  obtain ⟨k, rev, cnt, delay, gen, tick, pass, phase, active, r0, r1, w0, w1, p0, p1, sdelay, sgen, sw, flip⟩ := r
  obtain rfl : k = 7 := hk
  by_cases hrev : rev = 0
  case neg =>
    rw [decide_eq_false (fun h => by have h1 : rev = 0 := congrArg (fun l => at_ l 0) h; exact hrev h1)]
    exact mclean_7_rev rev cnt delay gen tick pass phase active r0 r1 w0 w1 p0 p1 sdelay sgen sw flip _ w (by simpa using hrev) rfl
  subst hrev
  by_cases hcnt : cnt = 0
  case neg =>
    rw [decide_eq_false (fun h => by have h1 : cnt = 0 := congrArg (fun l => at_ l 1) h; exact hcnt h1)]
    exact mclean_7_cnt cnt delay gen tick pass phase active r0 r1 w0 w1 p0 p1 sdelay sgen sw flip _ w (by simpa using hcnt) rfl
  subst hcnt
  by_cases hdelay : delay = 0
  case neg =>
    rw [decide_eq_false (fun h => by have h1 : delay = 0 := congrArg (fun l => at_ l 2) h; exact hdelay h1)]
    exact mclean_7_delay delay gen tick pass phase active r0 r1 w0 w1 p0 p1 sdelay sgen sw flip _ w (by simpa using hdelay) rfl
  subst hdelay
  cases pass
  case true =>
    rw [decide_eq_false (fun h => by have h1 : (1 : Int) = 0 := congrArg (fun l => at_ l 5) h; omega)]
    exact mclean_7_pass gen tick phase active r0 r1 w0 w1 p0 p1 sdelay sgen sw flip _ w rfl
  by_cases htick : tick = 0
  case neg =>
    rw [decide_eq_false (fun h => by have h1 : tick = 0 := congrArg (fun l => at_ l 4) h; exact htick h1)]
    exact mclean_7_tick gen tick phase active r0 r1 w0 w1 p0 p1 sdelay sgen sw flip _ w (by simpa using htick) rfl
  subst htick
  obtain ⟨q, hq, hqi⟩ := eq25 hr fits_zero
  have hqz : q = decide (zap (Rc.all ⟨7, 0, 0, 0, gen, 0, false, phase, active, r0, r1, w0, w1, p0, p1, sdelay, sgen, sw, flip⟩) [3] = zeros) := by
    by_cases e : zap (Rc.all ⟨7, 0, 0, 0, gen, 0, false, phase, active, r0, r1, w0, w1, p0, p1, sdelay, sgen, sw, flip⟩) [3] = zeros
    · rw [decide_eq_true e]
      refine hqi.2 ?_
      have e6 : phase = 0 := congrArg (fun l => at_ l 6) e
      have e7 : active = 0 := congrArg (fun l => at_ l 7) e
      have e8 : r0 = 0 := congrArg (fun l => at_ l 8) e
      have e9 : r1 = 0 := congrArg (fun l => at_ l 9) e
      have e10 : w0 = 0 := congrArg (fun l => at_ l 10) e
      have e11 : w1 = 0 := congrArg (fun l => at_ l 11) e
      have e12 : p0 = false := by
        have h1 : bitI p0 = 0 := congrArg (fun l => at_ l 12) e
        cases p0
        · rfl
        · exact absurd h1 (by decide)
      have e13 : p1 = false := by
        have h1 : bitI p1 = 0 := congrArg (fun l => at_ l 13) e
        cases p1
        · rfl
        · exact absurd h1 (by decide)
      have e14 : sdelay = 0 := congrArg (fun l => at_ l 14) e
      have e15 : sgen = 0 := congrArg (fun l => at_ l 15) e
      have e16 : sw = 0 := congrArg (fun l => at_ l 16) e
      have e17 : flip = 0 := congrArg (fun l => at_ l 17) e
      subst e6 e7 e8 e9 e10 e11 e12 e13 e14 e15 e16 e17
      rfl
    · rw [decide_eq_false e]
      cases q
      · rfl
      · refine absurd ?_ e
        have h1 := hqi.1 rfl
        simp [stL, zeroR] at h1
        obtain ⟨rfl, rfl, rfl, rfl, rfl, rfl, rfl, rfl, rfl, rfl, rfl, rfl⟩ := h1
        rfl
  rw [← hqz]
  exact mclean_7_end gen phase active r0 r1 w0 w1 p0 p1 sdelay sgen sw flip _ _ q w rfl rfl hq
set_option maxRecDepth 100000 in
set_option maxHeartbeats 2000000 in
theorem mclean_8_rev (rev : Int) (cnt : Int) (delay : Int) (gen : Int) (tick : Int) (pass : Bool) (phase : Int) (active : Int) (r0 : Int) (r1 : Int) (w0 : Int) (w1 : Int) (p0 : Bool) (p1 : Bool) (sdelay : Int) (sgen : Int) (sw : Int) (flip : Int) (cs : Array Value) (w : World) (hne : (rev != 0) = true) (hcs : cs = recC ⟨8, rev, cnt, delay, gen, tick, pass, phase, active, r0, r1, w0, w1, p0, p1, sdelay, sgen, sw, flip⟩) : Calls Tryd.prog 21 #[.agg cs] w fun e w' => e = .returned (.bool false) ∧ Below w.heap.size w w' := by
  have HC := Lib.hid hcs
  clear hcs
  go_enter Tryd.func21, Tryd.ntmps21
  go_upto_region 1 with (fail)
  refine name_w (fun W => Rw W w.heap.size cs 27 ∧ Below w.heap.size w W) ⟨Rw.new _ _ _, (Below.refl _ _).alloc (Nat.le_refl _) _⟩ ?_
  rintro W ⟨hR, hb⟩
  have HB := Lib.hid hb
  have c0 : W.cell? ⟨w.heap.size, 0, none⟩ = some (.int .i64 8) := by rw [hR.cell 0, HC.out]; rfl
  have c1 : W.cell? ⟨w.heap.size, 1, none⟩ = some (.int .i64 rev) := by rw [hR.cell 1, HC.out]; rfl
  clear hR hb
  go_wp2
  go_ret
  exact ⟨rfl, HB.out⟩
set_option maxRecDepth 100000 in
set_option maxHeartbeats 2000000 in
theorem mclean_8_cnt (cnt : Int) (delay : Int) (gen : Int) (tick : Int) (pass : Bool) (phase : Int) (active : Int) (r0 : Int) (r1 : Int) (w0 : Int) (w1 : Int) (p0 : Bool) (p1 : Bool) (sdelay : Int) (sgen : Int) (sw : Int) (flip : Int) (cs : Array Value) (w : World) (hne : (cnt != 0) = true) (hcs : cs = recC ⟨8, 0, cnt, delay, gen, tick, pass, phase, active, r0, r1, w0, w1, p0, p1, sdelay, sgen, sw, flip⟩) : Calls Tryd.prog 21 #[.agg cs] w fun e w' => e = .returned (.bool false) ∧ Below w.heap.size w w' := by
  have HC := Lib.hid hcs
  clear hcs
  go_enter Tryd.func21, Tryd.ntmps21
  go_upto_region 1 with (fail)
  refine name_w (fun W => Rw W w.heap.size cs 27 ∧ Below w.heap.size w W) ⟨Rw.new _ _ _, (Below.refl _ _).alloc (Nat.le_refl _) _⟩ ?_
  rintro W ⟨hR, hb⟩
  have HB := Lib.hid hb
  have c0 : W.cell? ⟨w.heap.size, 0, none⟩ = some (.int .i64 8) := by rw [hR.cell 0, HC.out]; rfl
  have c1 : W.cell? ⟨w.heap.size, 1, none⟩ = some (.int .i64 0) := by rw [hR.cell 1, HC.out]; rfl
  have c2 : W.cell? ⟨w.heap.size, 2, none⟩ = some (.int .i64 cnt) := by rw [hR.cell 2, HC.out]; rfl
  clear hR hb
  go_wp2
  go_ret
  exact ⟨rfl, HB.out⟩
set_option maxRecDepth 100000 in
set_option maxHeartbeats 2000000 in
theorem mclean_8_delay (delay : Int) (gen : Int) (tick : Int) (pass : Bool) (phase : Int) (active : Int) (r0 : Int) (r1 : Int) (w0 : Int) (w1 : Int) (p0 : Bool) (p1 : Bool) (sdelay : Int) (sgen : Int) (sw : Int) (flip : Int) (cs : Array Value) (w : World) (hne : (delay != 0) = true) (hcs : cs = recC ⟨8, 0, 0, delay, gen, tick, pass, phase, active, r0, r1, w0, w1, p0, p1, sdelay, sgen, sw, flip⟩) : Calls Tryd.prog 21 #[.agg cs] w fun e w' => e = .returned (.bool false) ∧ Below w.heap.size w w' := by
  have HC := Lib.hid hcs
  clear hcs
  go_enter Tryd.func21, Tryd.ntmps21
  go_upto_region 1 with (fail)
  refine name_w (fun W => Rw W w.heap.size cs 27 ∧ Below w.heap.size w W) ⟨Rw.new _ _ _, (Below.refl _ _).alloc (Nat.le_refl _) _⟩ ?_
  rintro W ⟨hR, hb⟩
  have HB := Lib.hid hb
  have c0 : W.cell? ⟨w.heap.size, 0, none⟩ = some (.int .i64 8) := by rw [hR.cell 0, HC.out]; rfl
  have c1 : W.cell? ⟨w.heap.size, 1, none⟩ = some (.int .i64 0) := by rw [hR.cell 1, HC.out]; rfl
  have c2 : W.cell? ⟨w.heap.size, 2, none⟩ = some (.int .i64 0) := by rw [hR.cell 2, HC.out]; rfl
  have c3 : W.cell? ⟨w.heap.size, 3, none⟩ = some (.int .i64 delay) := by rw [hR.cell 3, HC.out]; rfl
  clear hR hb
  go_wp2
  go_ret
  exact ⟨rfl, HB.out⟩
set_option maxRecDepth 100000 in
set_option maxHeartbeats 2000000 in
theorem mclean_8_pass (gen : Int) (tick : Int) (phase : Int) (active : Int) (r0 : Int) (r1 : Int) (w0 : Int) (w1 : Int) (p0 : Bool) (p1 : Bool) (sdelay : Int) (sgen : Int) (sw : Int) (flip : Int) (cs : Array Value) (w : World) (hcs : cs = recC ⟨8, 0, 0, 0, gen, tick, true, phase, active, r0, r1, w0, w1, p0, p1, sdelay, sgen, sw, flip⟩) : Calls Tryd.prog 21 #[.agg cs] w fun e w' => e = .returned (.bool false) ∧ Below w.heap.size w w' := by
  have HC := Lib.hid hcs
  clear hcs
  go_enter Tryd.func21, Tryd.ntmps21
  go_upto_region 1 with (fail)
  refine name_w (fun W => Rw W w.heap.size cs 27 ∧ Below w.heap.size w W) ⟨Rw.new _ _ _, (Below.refl _ _).alloc (Nat.le_refl _) _⟩ ?_
  rintro W ⟨hR, hb⟩
  have HB := Lib.hid hb
  have c0 : W.cell? ⟨w.heap.size, 0, none⟩ = some (.int .i64 8) := by rw [hR.cell 0, HC.out]; rfl
  have c1 : W.cell? ⟨w.heap.size, 1, none⟩ = some (.int .i64 0) := by rw [hR.cell 1, HC.out]; rfl
  have c2 : W.cell? ⟨w.heap.size, 2, none⟩ = some (.int .i64 0) := by rw [hR.cell 2, HC.out]; rfl
  have c3 : W.cell? ⟨w.heap.size, 3, none⟩ = some (.int .i64 0) := by rw [hR.cell 3, HC.out]; rfl
  have c6 : W.cell? ⟨w.heap.size, 6, none⟩ = some (.bool true) := by rw [hR.cell 6, HC.out]; rfl
  clear hR hb
  go_wp2
  go_ret
  exact ⟨rfl, HB.out⟩
set_option maxRecDepth 100000 in
set_option maxHeartbeats 2000000 in
theorem mclean_8_end (gen : Int) (tick : Int) (phase : Int) (active : Int) (r0 : Int) (r1 : Int) (w0 : Int) (w1 : Int) (p0 : Bool) (p1 : Bool) (sdelay : Int) (sgen : Int) (sw : Int) (flip : Int) (cs zs : Array Value) (q : Bool) (w : World) (hcs : cs = recC ⟨8, 0, 0, 0, gen, tick, false, phase, active, r0, r1, w0, w1, p0, p1, sdelay, sgen, sw, flip⟩) (hzs : zs = stC zeroR) (hq : ∀ W, (Op.equalIn 10000 25 (.agg #[.int .i64 phase, .int .i64 active, .int .i64 r0, .int .i64 r1, .int .i64 w0, .int .i64 w1, .bool p0, .bool p1, .int .i64 sdelay, .int .i64 sgen, .int .i64 sw, .int .i64 flip]) (.agg zs)).run Tryd.prog W = .ok q W) : Calls Tryd.prog 21 #[.agg cs] w fun e w' => e = .returned (.bool q) ∧ Below w.heap.size w w' := by
  have HZ := Lib.hid hzs
  have HZZ : Hid (zs.size = 12) := Lib.hid (by rw [hzs]; rfl)
  clear hzs
  have HC := Lib.hid hcs
  clear hcs
  go_enter Tryd.func21, Tryd.ntmps21
  go_upto_region 1 with (fail)
  refine name_w (fun W => Rw W w.heap.size cs 27 ∧ Below w.heap.size w W) ⟨Rw.new _ _ _, (Below.refl _ _).alloc (Nat.le_refl _) _⟩ ?_
  rintro W ⟨hR, hb⟩
  have HB := Lib.hid hb
  have c0 : W.cell? ⟨w.heap.size, 0, none⟩ = some (.int .i64 8) := by rw [hR.cell 0, HC.out]; rfl
  have c1 : W.cell? ⟨w.heap.size, 1, none⟩ = some (.int .i64 0) := by rw [hR.cell 1, HC.out]; rfl
  have c2 : W.cell? ⟨w.heap.size, 2, none⟩ = some (.int .i64 0) := by rw [hR.cell 2, HC.out]; rfl
  have c3 : W.cell? ⟨w.heap.size, 3, none⟩ = some (.int .i64 0) := by rw [hR.cell 3, HC.out]; rfl
  have c6 : W.cell? ⟨w.heap.size, 6, none⟩ = some (.bool false) := by rw [hR.cell 6, HC.out]; rfl
  have c7 : W.cell? ⟨w.heap.size, 7, none⟩ = some (.int .i64 phase) := by rw [hR.cell 7, HC.out]; rfl
  have c8 : W.cell? ⟨w.heap.size, 8, none⟩ = some (.int .i64 active) := by rw [hR.cell 8, HC.out]; rfl
  have c9 : W.cell? ⟨w.heap.size, 9, none⟩ = some (.int .i64 r0) := by rw [hR.cell 9, HC.out]; rfl
  have c10 : W.cell? ⟨w.heap.size, 10, none⟩ = some (.int .i64 r1) := by rw [hR.cell 10, HC.out]; rfl
  have c11 : W.cell? ⟨w.heap.size, 11, none⟩ = some (.int .i64 w0) := by rw [hR.cell 11, HC.out]; rfl
  have c12 : W.cell? ⟨w.heap.size, 12, none⟩ = some (.int .i64 w1) := by rw [hR.cell 12, HC.out]; rfl
  have c13 : W.cell? ⟨w.heap.size, 13, none⟩ = some (.bool p0) := by rw [hR.cell 13, HC.out]; rfl
  have c14 : W.cell? ⟨w.heap.size, 14, none⟩ = some (.bool p1) := by rw [hR.cell 14, HC.out]; rfl
  have c15 : W.cell? ⟨w.heap.size, 15, none⟩ = some (.int .i64 sdelay) := by rw [hR.cell 15, HC.out]; rfl
  have c16 : W.cell? ⟨w.heap.size, 16, none⟩ = some (.int .i64 sgen) := by rw [hR.cell 16, HC.out]; rfl
  have c17 : W.cell? ⟨w.heap.size, 17, none⟩ = some (.int .i64 sw) := by rw [hR.cell 17, HC.out]; rfl
  have c18 : W.cell? ⟨w.heap.size, 18, none⟩ = some (.int .i64 flip) := by rw [hR.cell 18, HC.out]; rfl
  clear hR hb
  go_upto_region 7 with (fail)
  go_upto_region 8 with (refine wpList_plain rfl fun _ hK => wp_store_row 25 (.tmp 3) (.tmp 57) rfl W.heap.size _ rfl rfl 25 _ (Rw.new W _ 25) (by kernel_rfl) rfl (by simp [Value.oneCell']) (hK _ _ ?_); clear hK)
  refine name_w (fun W2 => Rw W2 W.heap.size zs 25 ∧ Below W.heap.size W W2) ⟨by rw [HZ.out]; exact (Rw.new W (stC zeroR) 25).set _, below_setRow ((Below.refl _ _).alloc (Nat.le_refl _) _) (Nat.le_refl _) _⟩ ?_
  rintro W2 ⟨hQ, hb2⟩
  have HQ := Lib.hid hQ
  have HLT : w.heap.size < W.heap.size := block_lt_of_cell c0
  have d0 : W2.cell? ⟨w.heap.size, 0, none⟩ = some (.int .i64 8) := (hb2.cell (p := ⟨w.heap.size, 0, none⟩) HLT).trans c0
  have d7 : W2.cell? ⟨w.heap.size, 7, none⟩ = some (.int .i64 phase) := (hb2.cell (p := ⟨w.heap.size, 7, none⟩) HLT).trans c7
  have d8 : W2.cell? ⟨w.heap.size, 8, none⟩ = some (.int .i64 active) := (hb2.cell (p := ⟨w.heap.size, 8, none⟩) HLT).trans c8
  have d9 : W2.cell? ⟨w.heap.size, 9, none⟩ = some (.int .i64 r0) := (hb2.cell (p := ⟨w.heap.size, 9, none⟩) HLT).trans c9
  have d10 : W2.cell? ⟨w.heap.size, 10, none⟩ = some (.int .i64 r1) := (hb2.cell (p := ⟨w.heap.size, 10, none⟩) HLT).trans c10
  have d11 : W2.cell? ⟨w.heap.size, 11, none⟩ = some (.int .i64 w0) := (hb2.cell (p := ⟨w.heap.size, 11, none⟩) HLT).trans c11
  have d12 : W2.cell? ⟨w.heap.size, 12, none⟩ = some (.int .i64 w1) := (hb2.cell (p := ⟨w.heap.size, 12, none⟩) HLT).trans c12
  have d13 : W2.cell? ⟨w.heap.size, 13, none⟩ = some (.bool p0) := (hb2.cell (p := ⟨w.heap.size, 13, none⟩) HLT).trans c13
  have d14 : W2.cell? ⟨w.heap.size, 14, none⟩ = some (.bool p1) := (hb2.cell (p := ⟨w.heap.size, 14, none⟩) HLT).trans c14
  have d15 : W2.cell? ⟨w.heap.size, 15, none⟩ = some (.int .i64 sdelay) := (hb2.cell (p := ⟨w.heap.size, 15, none⟩) HLT).trans c15
  have d16 : W2.cell? ⟨w.heap.size, 16, none⟩ = some (.int .i64 sgen) := (hb2.cell (p := ⟨w.heap.size, 16, none⟩) HLT).trans c16
  have d17 : W2.cell? ⟨w.heap.size, 17, none⟩ = some (.int .i64 sw) := (hb2.cell (p := ⟨w.heap.size, 17, none⟩) HLT).trans c17
  have d18 : W2.cell? ⟨w.heap.size, 18, none⟩ = some (.int .i64 flip) := (hb2.cell (p := ⟨w.heap.size, 18, none⟩) HLT).trans c18
  have HB2 := Lib.hid (HB.out.trans (hb2.mono HB.out.size))
  clear hb2 hQ HLT c0 c1 c2 c3 c6 c7 c8 c9 c10 c11 c12 c13 c14 c15 c16 c17 c18
  go_wp2_with (refine wpList_load_any (by rfl) 25 (.tmp 3) rfl W.heap.size rfl 25 zs (0, 0) _ HQ.out Tryd.underlying25 rfl (by rw [HZZ.out]; exact i12) ?_)
  go_ret
  exact ⟨rfl, HB2.out⟩
theorem mclean_8 (r : Rc) (w : World) (hr : FitsR r) (hk : r.kind = 8) : Calls Tryd.prog 21 #[recV r] w fun e w' => e = .returned (.bool (decide (zap r.all [3, 4] = zeros))) ∧ Below w.heap.size w w' := by
  obtain ⟨k, rev, cnt, delay, gen, tick, pass, phase, active, r0, r1, w0, w1, p0, p1, sdelay, sgen, sw, flip⟩ := r
  obtain rfl : k = 8 := hk
  by_cases hrev : rev = 0
  case neg =>
    rw [decide_eq_false (fun h => by have h1 : rev = 0 := congrArg (fun l => at_ l 0) h; exact hrev h1)]
    exact mclean_8_rev rev cnt delay gen tick pass phase active r0 r1 w0 w1 p0 p1 sdelay sgen sw flip _ w (by simpa using hrev) rfl
  subst hrev
  by_cases hcnt : cnt = 0
  case neg =>
    rw [decide_eq_false (fun h => by have h1 : cnt = 0 := congrArg (fun l => at_ l 1) h; exact hcnt h1)]
    exact mclean_8_cnt cnt delay gen tick pass phase active r0 r1 w0 w1 p0 p1 sdelay sgen sw flip _ w (by simpa using hcnt) rfl
  subst hcnt
  by_cases hdelay : delay = 0
  case neg =>
    rw [decide_eq_false (fun h => by have h1 : delay = 0 := congrArg (fun l => at_ l 2) h; exact hdelay h1)]
    exact mclean_8_delay delay gen tick pass phase active r0 r1 w0 w1 p0 p1 sdelay sgen sw flip _ w (by simpa using hdelay) rfl
  subst hdelay
  cases pass
  case true =>
    rw [decide_eq_false (fun h => by have h1 : (1 : Int) = 0 := congrArg (fun l => at_ l 5) h; omega)]
    exact mclean_8_pass gen tick phase active r0 r1 w0 w1 p0 p1 sdelay sgen sw flip _ w rfl
  obtain ⟨q, hq, hqi⟩ := eq25 hr fits_zero
  have hqz : q = decide (zap (Rc.all ⟨8, 0, 0, 0, gen, tick, false, phase, active, r0, r1, w0, w1, p0, p1, sdelay, sgen, sw, flip⟩) [3, 4] = zeros) := by
    by_cases e : zap (Rc.all ⟨8, 0, 0, 0, gen, tick, false, phase, active, r0, r1, w0, w1, p0, p1, sdelay, sgen, sw, flip⟩) [3, 4] = zeros
    · rw [decide_eq_true e]
      refine hqi.2 ?_
      have e6 : phase = 0 := congrArg (fun l => at_ l 6) e
      have e7 : active = 0 := congrArg (fun l => at_ l 7) e
      have e8 : r0 = 0 := congrArg (fun l => at_ l 8) e
      have e9 : r1 = 0 := congrArg (fun l => at_ l 9) e
      have e10 : w0 = 0 := congrArg (fun l => at_ l 10) e
      have e11 : w1 = 0 := congrArg (fun l => at_ l 11) e
      have e12 : p0 = false := by
        have h1 : bitI p0 = 0 := congrArg (fun l => at_ l 12) e
        cases p0
        · rfl
        · exact absurd h1 (by decide)
      have e13 : p1 = false := by
        have h1 : bitI p1 = 0 := congrArg (fun l => at_ l 13) e
        cases p1
        · rfl
        · exact absurd h1 (by decide)
      have e14 : sdelay = 0 := congrArg (fun l => at_ l 14) e
      have e15 : sgen = 0 := congrArg (fun l => at_ l 15) e
      have e16 : sw = 0 := congrArg (fun l => at_ l 16) e
      have e17 : flip = 0 := congrArg (fun l => at_ l 17) e
      subst e6 e7 e8 e9 e10 e11 e12 e13 e14 e15 e16 e17
      rfl
    · rw [decide_eq_false e]
      cases q
      · rfl
      · refine absurd ?_ e
        have h1 := hqi.1 rfl
        simp [stL, zeroR] at h1
        obtain ⟨rfl, rfl, rfl, rfl, rfl, rfl, rfl, rfl, rfl, rfl, rfl, rfl⟩ := h1
        rfl
  rw [← hqz]
  exact mclean_8_end gen tick phase active r0 r1 w0 w1 p0 p1 sdelay sgen sw flip _ _ q w rfl rfl hq
end Go.Proofs.YthombepmlepgfaaDoor
