/-
  What the document's own Fields answers.
-/
import Derived.Test.YthombepmlepgfaaDoorMref
import Derived.Test.YthombepmlepgfaaDoorIPut
namespace Go.Proofs.YthombepmlepgfaaDoor
open Go.RowKit

/-- A list, new. -/
def GotV (w : World) (xs : List Int) (e : Ending) (w' : World) : Prop := ∃ v, e = .returned v ∧ Vals w' v (ints xs) ∧ Below w.heap.size w w'
set_option maxRecDepth 100000 in
set_option maxHeartbeats 2000000 in
theorem mfields_1 (rev cnt delay gen tick : Int) (pass : Bool) (phase active r0 r1 w0 w1 : Int) (p0 p1 : Bool) (sdelay sgen sw flip : Int) (cs : Array Value) (w : World) (hcs : cs = recC ⟨1, rev, cnt, delay, gen, tick, pass, phase, active, r0, r1, w0, w1, p0, p1, sdelay, sgen, sw, flip⟩) : Calls Tryd.prog 22 #[.agg cs] w (GotV w [rev, cnt, delay]) := by
  have HC := Lib.hid hcs
  have HM : Hid (∀ b W, Calls Tryd.prog 29 #[.bool b] W fun e w' => e = .returned (.int .i64 (bitI b)) ∧ w' = W) := Lib.hid mone_any
  clear hcs
  go_enter Tryd.func22, Tryd.ntmps22
  go_upto_region 1 with (fail)
  refine name_w (fun W => Rw W w.heap.size cs 27 ∧ Below w.heap.size w W) ⟨Rw.new _ _ _, (Below.refl _ _).alloc (Nat.le_refl _) _⟩ ?_
  rintro W ⟨hR, hb⟩
  have HB := Lib.hid hb
  have c0 : W.cell? ⟨w.heap.size, 0, none⟩ = some (.int .i64 1) := by rw [hR.cell 0, HC.out]; rfl
  have c1 : W.cell? ⟨w.heap.size, 1, none⟩ = some (.int .i64 rev) := by rw [hR.cell 1, HC.out]; rfl
  have c2 : W.cell? ⟨w.heap.size, 2, none⟩ = some (.int .i64 cnt) := by rw [hR.cell 2, HC.out]; rfl
  have c3 : W.cell? ⟨w.heap.size, 3, none⟩ = some (.int .i64 delay) := by rw [hR.cell 3, HC.out]; rfl
  clear hR hb
  go_wp2_with (go_at_call 29; refine (HM.out _ _).mono ?_; rintro e w1 ⟨rfl, rfl⟩)
  go_ret
  exact ⟨_, rfl, vals_lit W [rev, cnt, delay] 3, HB.out.alloc HB.out.size _⟩
set_option maxRecDepth 100000 in
set_option maxHeartbeats 2000000 in
theorem mfields_2 (rev cnt delay gen tick : Int) (pass : Bool) (phase active r0 r1 w0 w1 : Int) (p0 p1 : Bool) (sdelay sgen sw flip : Int) (cs : Array Value) (w : World) (hcs : cs = recC ⟨2, rev, cnt, delay, gen, tick, pass, phase, active, r0, r1, w0, w1, p0, p1, sdelay, sgen, sw, flip⟩) : Calls Tryd.prog 22 #[.agg cs] w (GotV w []) := by
  have HC := Lib.hid hcs
  have HM : Hid (∀ b W, Calls Tryd.prog 29 #[.bool b] W fun e w' => e = .returned (.int .i64 (bitI b)) ∧ w' = W) := Lib.hid mone_any
  clear hcs
  go_enter Tryd.func22, Tryd.ntmps22
  go_upto_region 1 with (fail)
  refine name_w (fun W => Rw W w.heap.size cs 27 ∧ Below w.heap.size w W) ⟨Rw.new _ _ _, (Below.refl _ _).alloc (Nat.le_refl _) _⟩ ?_
  rintro W ⟨hR, hb⟩
  have HB := Lib.hid hb
  have c0 : W.cell? ⟨w.heap.size, 0, none⟩ = some (.int .i64 2) := by rw [hR.cell 0, HC.out]; rfl
  clear hR hb
  go_wp2_with (go_at_call 29; refine (HM.out _ _).mono ?_; rintro e w1 ⟨rfl, rfl⟩)
  go_ret
  exact ⟨_, rfl, vals_lit W [] 3, HB.out.alloc HB.out.size _⟩
set_option maxRecDepth 100000 in
set_option maxHeartbeats 2000000 in
theorem mfields_3 (rev cnt delay gen tick : Int) (pass : Bool) (phase active r0 r1 w0 w1 : Int) (p0 p1 : Bool) (sdelay sgen sw flip : Int) (cs : Array Value) (w : World) (hcs : cs = recC ⟨3, rev, cnt, delay, gen, tick, pass, phase, active, r0, r1, w0, w1, p0, p1, sdelay, sgen, sw, flip⟩) : Calls Tryd.prog 22 #[.agg cs] w (GotV w []) := by
  have HC := Lib.hid hcs
  have HM : Hid (∀ b W, Calls Tryd.prog 29 #[.bool b] W fun e w' => e = .returned (.int .i64 (bitI b)) ∧ w' = W) := Lib.hid mone_any
  clear hcs
  go_enter Tryd.func22, Tryd.ntmps22
  go_upto_region 1 with (fail)
  refine name_w (fun W => Rw W w.heap.size cs 27 ∧ Below w.heap.size w W) ⟨Rw.new _ _ _, (Below.refl _ _).alloc (Nat.le_refl _) _⟩ ?_
  rintro W ⟨hR, hb⟩
  have HB := Lib.hid hb
  have c0 : W.cell? ⟨w.heap.size, 0, none⟩ = some (.int .i64 3) := by rw [hR.cell 0, HC.out]; rfl
  clear hR hb
  go_wp2_with (go_at_call 29; refine (HM.out _ _).mono ?_; rintro e w1 ⟨rfl, rfl⟩)
  go_ret
  exact ⟨_, rfl, vals_lit W [] 3, HB.out.alloc HB.out.size _⟩
set_option maxRecDepth 100000 in
set_option maxHeartbeats 2000000 in
theorem mfields_4 (rev cnt delay gen tick : Int) (pass : Bool) (phase active r0 r1 w0 w1 : Int) (p0 p1 : Bool) (sdelay sgen sw flip : Int) (cs : Array Value) (w : World) (hcs : cs = recC ⟨4, rev, cnt, delay, gen, tick, pass, phase, active, r0, r1, w0, w1, p0, p1, sdelay, sgen, sw, flip⟩) : Calls Tryd.prog 22 #[.agg cs] w (GotV w [bitI pass]) := by
  have HC := Lib.hid hcs
  have HM : Hid (∀ b W, Calls Tryd.prog 29 #[.bool b] W fun e w' => e = .returned (.int .i64 (bitI b)) ∧ w' = W) := Lib.hid mone_any
  clear hcs
  go_enter Tryd.func22, Tryd.ntmps22
  go_upto_region 1 with (fail)
  refine name_w (fun W => Rw W w.heap.size cs 27 ∧ Below w.heap.size w W) ⟨Rw.new _ _ _, (Below.refl _ _).alloc (Nat.le_refl _) _⟩ ?_
  rintro W ⟨hR, hb⟩
  have HB := Lib.hid hb
  have c0 : W.cell? ⟨w.heap.size, 0, none⟩ = some (.int .i64 4) := by rw [hR.cell 0, HC.out]; rfl
  have c6 : W.cell? ⟨w.heap.size, 6, none⟩ = some (.bool pass) := by rw [hR.cell 6, HC.out]; rfl
  clear hR hb
  go_wp2_with (go_at_call 29; refine (HM.out _ _).mono ?_; rintro e w1 ⟨rfl, rfl⟩)
  go_ret
  exact ⟨_, rfl, vals_lit w1 [bitI pass] 3, HB.out.alloc HB.out.size _⟩
set_option maxRecDepth 100000 in
set_option maxHeartbeats 2000000 in
theorem mfields_5 (rev cnt delay gen tick : Int) (pass : Bool) (phase active r0 r1 w0 w1 : Int) (p0 p1 : Bool) (sdelay sgen sw flip : Int) (cs : Array Value) (w : World) (hcs : cs = recC ⟨5, rev, cnt, delay, gen, tick, pass, phase, active, r0, r1, w0, w1, p0, p1, sdelay, sgen, sw, flip⟩) : Calls Tryd.prog 22 #[.agg cs] w (GotV w [gen]) := by
  have HC := Lib.hid hcs
  have HM : Hid (∀ b W, Calls Tryd.prog 29 #[.bool b] W fun e w' => e = .returned (.int .i64 (bitI b)) ∧ w' = W) := Lib.hid mone_any
  clear hcs
  go_enter Tryd.func22, Tryd.ntmps22
  go_upto_region 1 with (fail)
  refine name_w (fun W => Rw W w.heap.size cs 27 ∧ Below w.heap.size w W) ⟨Rw.new _ _ _, (Below.refl _ _).alloc (Nat.le_refl _) _⟩ ?_
  rintro W ⟨hR, hb⟩
  have HB := Lib.hid hb
  have c0 : W.cell? ⟨w.heap.size, 0, none⟩ = some (.int .i64 5) := by rw [hR.cell 0, HC.out]; rfl
  have c4 : W.cell? ⟨w.heap.size, 4, none⟩ = some (.int .i64 gen) := by rw [hR.cell 4, HC.out]; rfl
  clear hR hb
  go_wp2_with (go_at_call 29; refine (HM.out _ _).mono ?_; rintro e w1 ⟨rfl, rfl⟩)
  go_ret
  exact ⟨_, rfl, vals_lit W [gen] 3, HB.out.alloc HB.out.size _⟩
set_option maxRecDepth 100000 in
set_option maxHeartbeats 2000000 in
theorem mfields_6 (rev cnt delay gen tick : Int) (pass : Bool) (phase active r0 r1 w0 w1 : Int) (p0 p1 : Bool) (sdelay sgen sw flip : Int) (cs : Array Value) (w : World) (hcs : cs = recC ⟨6, rev, cnt, delay, gen, tick, pass, phase, active, r0, r1, w0, w1, p0, p1, sdelay, sgen, sw, flip⟩) : Calls Tryd.prog 22 #[.agg cs] w (GotV w [gen]) := by
  have HC := Lib.hid hcs
  have HM : Hid (∀ b W, Calls Tryd.prog 29 #[.bool b] W fun e w' => e = .returned (.int .i64 (bitI b)) ∧ w' = W) := Lib.hid mone_any
  clear hcs
  go_enter Tryd.func22, Tryd.ntmps22
  go_upto_region 1 with (fail)
  refine name_w (fun W => Rw W w.heap.size cs 27 ∧ Below w.heap.size w W) ⟨Rw.new _ _ _, (Below.refl _ _).alloc (Nat.le_refl _) _⟩ ?_
  rintro W ⟨hR, hb⟩
  have HB := Lib.hid hb
  have c0 : W.cell? ⟨w.heap.size, 0, none⟩ = some (.int .i64 6) := by rw [hR.cell 0, HC.out]; rfl
  have c4 : W.cell? ⟨w.heap.size, 4, none⟩ = some (.int .i64 gen) := by rw [hR.cell 4, HC.out]; rfl
  clear hR hb
  go_wp2_with (go_at_call 29; refine (HM.out _ _).mono ?_; rintro e w1 ⟨rfl, rfl⟩)
  go_ret
  exact ⟨_, rfl, vals_lit W [gen] 3, HB.out.alloc HB.out.size _⟩
set_option maxRecDepth 100000 in
set_option maxHeartbeats 2000000 in
theorem mfields_7 (rev cnt delay gen tick : Int) (pass : Bool) (phase active r0 r1 w0 w1 : Int) (p0 p1 : Bool) (sdelay sgen sw flip : Int) (cs : Array Value) (w : World) (hcs : cs = recC ⟨7, rev, cnt, delay, gen, tick, pass, phase, active, r0, r1, w0, w1, p0, p1, sdelay, sgen, sw, flip⟩) : Calls Tryd.prog 22 #[.agg cs] w (GotV w [gen]) := by
  have HC := Lib.hid hcs
  have HM : Hid (∀ b W, Calls Tryd.prog 29 #[.bool b] W fun e w' => e = .returned (.int .i64 (bitI b)) ∧ w' = W) := Lib.hid mone_any
  clear hcs
  go_enter Tryd.func22, Tryd.ntmps22
  go_upto_region 1 with (fail)
  refine name_w (fun W => Rw W w.heap.size cs 27 ∧ Below w.heap.size w W) ⟨Rw.new _ _ _, (Below.refl _ _).alloc (Nat.le_refl _) _⟩ ?_
  rintro W ⟨hR, hb⟩
  have HB := Lib.hid hb
  have c0 : W.cell? ⟨w.heap.size, 0, none⟩ = some (.int .i64 7) := by rw [hR.cell 0, HC.out]; rfl
  have c4 : W.cell? ⟨w.heap.size, 4, none⟩ = some (.int .i64 gen) := by rw [hR.cell 4, HC.out]; rfl
  clear hR hb
  go_wp2_with (go_at_call 29; refine (HM.out _ _).mono ?_; rintro e w1 ⟨rfl, rfl⟩)
  go_ret
  exact ⟨_, rfl, vals_lit W [gen] 3, HB.out.alloc HB.out.size _⟩
set_option maxRecDepth 100000 in
set_option maxHeartbeats 2000000 in
theorem mfields_8 (rev cnt delay gen tick : Int) (pass : Bool) (phase active r0 r1 w0 w1 : Int) (p0 p1 : Bool) (sdelay sgen sw flip : Int) (cs : Array Value) (w : World) (hcs : cs = recC ⟨8, rev, cnt, delay, gen, tick, pass, phase, active, r0, r1, w0, w1, p0, p1, sdelay, sgen, sw, flip⟩) : Calls Tryd.prog 22 #[.agg cs] w (GotV w [gen, tick]) := by
  have HC := Lib.hid hcs
  have HM : Hid (∀ b W, Calls Tryd.prog 29 #[.bool b] W fun e w' => e = .returned (.int .i64 (bitI b)) ∧ w' = W) := Lib.hid mone_any
  clear hcs
  go_enter Tryd.func22, Tryd.ntmps22
  go_upto_region 1 with (fail)
  refine name_w (fun W => Rw W w.heap.size cs 27 ∧ Below w.heap.size w W) ⟨Rw.new _ _ _, (Below.refl _ _).alloc (Nat.le_refl _) _⟩ ?_
  rintro W ⟨hR, hb⟩
  have HB := Lib.hid hb
  have c0 : W.cell? ⟨w.heap.size, 0, none⟩ = some (.int .i64 8) := by rw [hR.cell 0, HC.out]; rfl
  have c4 : W.cell? ⟨w.heap.size, 4, none⟩ = some (.int .i64 gen) := by rw [hR.cell 4, HC.out]; rfl
  have c5 : W.cell? ⟨w.heap.size, 5, none⟩ = some (.int .i64 tick) := by rw [hR.cell 5, HC.out]; rfl
  clear hR hb
  go_wp2_with (go_at_call 29; refine (HM.out _ _).mono ?_; rintro e w1 ⟨rfl, rfl⟩)
  go_ret
  exact ⟨_, rfl, vals_lit W [gen, tick] 3, HB.out.alloc HB.out.size _⟩
set_option maxRecDepth 100000 in
set_option maxHeartbeats 2000000 in
theorem mfields_9 (rev cnt delay gen tick : Int) (pass : Bool) (phase active r0 r1 w0 w1 : Int) (p0 p1 : Bool) (sdelay sgen sw flip : Int) (cs : Array Value) (w : World) (hcs : cs = recC ⟨9, rev, cnt, delay, gen, tick, pass, phase, active, r0, r1, w0, w1, p0, p1, sdelay, sgen, sw, flip⟩) : Calls Tryd.prog 22 #[.agg cs] w (GotV w [bitI pass]) := by
  have HC := Lib.hid hcs
  have HM : Hid (∀ b W, Calls Tryd.prog 29 #[.bool b] W fun e w' => e = .returned (.int .i64 (bitI b)) ∧ w' = W) := Lib.hid mone_any
  clear hcs
  go_enter Tryd.func22, Tryd.ntmps22
  go_upto_region 1 with (fail)
  refine name_w (fun W => Rw W w.heap.size cs 27 ∧ Below w.heap.size w W) ⟨Rw.new _ _ _, (Below.refl _ _).alloc (Nat.le_refl _) _⟩ ?_
  rintro W ⟨hR, hb⟩
  have HB := Lib.hid hb
  have c0 : W.cell? ⟨w.heap.size, 0, none⟩ = some (.int .i64 9) := by rw [hR.cell 0, HC.out]; rfl
  have c6 : W.cell? ⟨w.heap.size, 6, none⟩ = some (.bool pass) := by rw [hR.cell 6, HC.out]; rfl
  clear hR hb
  go_wp2_with (go_at_call 29; refine (HM.out _ _).mono ?_; rintro e w1 ⟨rfl, rfl⟩)
  go_ret
  exact ⟨_, rfl, vals_lit w1 [bitI pass] 3, HB.out.alloc HB.out.size _⟩
set_option maxRecDepth 100000 in
set_option maxHeartbeats 2000000 in
theorem mfields_10 (rev cnt delay gen tick : Int) (pass : Bool) (phase active r0 r1 w0 w1 : Int) (p0 p1 : Bool) (sdelay sgen sw flip : Int) (cs : Array Value) (w : World) (hcs : cs = recC ⟨10, rev, cnt, delay, gen, tick, pass, phase, active, r0, r1, w0, w1, p0, p1, sdelay, sgen, sw, flip⟩) : Calls Tryd.prog 22 #[.agg cs] w (GotV w []) := by
  have HC := Lib.hid hcs
  have HM : Hid (∀ b W, Calls Tryd.prog 29 #[.bool b] W fun e w' => e = .returned (.int .i64 (bitI b)) ∧ w' = W) := Lib.hid mone_any
  clear hcs
  go_enter Tryd.func22, Tryd.ntmps22
  go_upto_region 1 with (fail)
  refine name_w (fun W => Rw W w.heap.size cs 27 ∧ Below w.heap.size w W) ⟨Rw.new _ _ _, (Below.refl _ _).alloc (Nat.le_refl _) _⟩ ?_
  rintro W ⟨hR, hb⟩
  have HB := Lib.hid hb
  have c0 : W.cell? ⟨w.heap.size, 0, none⟩ = some (.int .i64 10) := by rw [hR.cell 0, HC.out]; rfl
  clear hR hb
  go_wp2_with (go_at_call 29; refine (HM.out _ _).mono ?_; rintro e w1 ⟨rfl, rfl⟩)
  go_ret
  exact ⟨_, rfl, vals_lit W [] 3, HB.out.alloc HB.out.size _⟩
set_option maxRecDepth 100000 in
set_option maxHeartbeats 4000000 in
theorem mfields_11 (rev cnt delay gen tick : Int) (pass : Bool) (phase active r0 r1 w0 w1 : Int) (p0 p1 : Bool) (sdelay sgen sw flip : Int) (cs : Array Value) (w : World) (hcs : cs = recC ⟨11, rev, cnt, delay, gen, tick, pass, phase, active, r0, r1, w0, w1, p0, p1, sdelay, sgen, sw, flip⟩) : Calls Tryd.prog 22 #[.agg cs] w (GotV w [phase, active, r0, r1, w0, w1, bitI p0, bitI p1, sdelay, sgen, sw, flip]) := by
  have HC := Lib.hid hcs
  have HM : Hid (∀ b W, Calls Tryd.prog 29 #[.bool b] W fun e w' => e = .returned (.int .i64 (bitI b)) ∧ w' = W) := Lib.hid mone_any
  clear hcs
  go_enter Tryd.func22, Tryd.ntmps22
  go_upto_region 1 with (fail)
  refine name_w (fun W => Rw W w.heap.size cs 27 ∧ Below w.heap.size w W) ⟨Rw.new _ _ _, (Below.refl _ _).alloc (Nat.le_refl _) _⟩ ?_
  rintro W ⟨hR, hb⟩
  have HB := Lib.hid hb
  have c0 : W.cell? ⟨w.heap.size, 0, none⟩ = some (.int .i64 11) := by rw [hR.cell 0, HC.out]; rfl
  have c7 : W.cell? ⟨w.heap.size, 7, none⟩ = some (.int .i64 phase) := by rw [hR.cell 7, HC.out]; rfl
  have c8 : W.cell? ⟨w.heap.size, 8, none⟩ = some (.int .i64 active) := by rw [hR.cell 8, HC.out]; rfl
  have c9 : W.cell? ⟨w.heap.size, 9, none⟩ = some (.int .i64 r0) := by rw [hR.cell 9, HC.out]; rfl
  have c10 : W.cell? ⟨w.heap.size, 10, none⟩ = some (.int .i64 r1) := by rw [hR.cell 10, HC.out]; rfl
  have c11 : W.cell? ⟨w.heap.size, 11, none⟩ = some (.int .i64 w0) := by rw [hR.cell 11, HC.out]; rfl
  have c12 : W.cell? ⟨w.heap.size, 12, none⟩ = some (.int .i64 w1) := by rw [hR.cell 12, HC.out]; rfl
  have c13 : W.cell? ⟨w.heap.size, 13, none⟩ = some (.bool p0) := by rw [hR.cell 13, HC.out]; rfl
  have c14 : W.cell? ⟨w.heap.size, 14, none⟩ = some (.bool p1) := by rw [hR.cell 14, HC.out]; rfl
  have c15 : W.cell? ⟨w.heap.size, 15, none⟩ = some (.int .i64 sdelay) := by rw [hR.cell 15, HC.out]; rfl
  have c16 : W.cell? ⟨w.heap.size, 16, none⟩ = some (.int .i64 sgen) := by rw [hR.cell 16, HC.out]; rfl
  have c17 : W.cell? ⟨w.heap.size, 17, none⟩ = some (.int .i64 sw) := by rw [hR.cell 17, HC.out]; rfl
  have c18 : W.cell? ⟨w.heap.size, 18, none⟩ = some (.int .i64 flip) := by rw [hR.cell 18, HC.out]; rfl
  clear hR hb
  obtain ⟨S, hS⟩ : ∃ S : Array Value, S = #[.int .i64 phase, .int .i64 active, .int .i64 r0, .int .i64 r1, .int .i64 w0, .int .i64 w1, .bool p0, .bool p1, .int .i64 sdelay, .int .i64 sgen, .int .i64 sw, .int .i64 flip] := ⟨_, rfl⟩
  have HS := Lib.hid hS
  clear hS
  go_upto_region 15 with (refine wpList_plain rfl fun _ hK => wp_store_row 25 (.tmp 3) (.tmp 39) rfl W.heap.size _ rfl rfl 25 _ (Rw.new W _ 25) (by kernel_rfl) rfl (by simp [Value.oneCell']) (hK _ _ ?_); clear hK)
  clear c7 c8 c9 c10 c11 c12 c13 c14 c15 c16 c17 c18 c0
  refine still_named 32 (by kernel_rfl) (by kernel_rfl) (fun W2 => Rw W2 W.heap.size #[.int .i64 phase, .int .i64 active, .int .i64 r0, .int .i64 r1, .int .i64 w0, .int .i64 w1, .bool p0, .bool p1, .int .i64 sdelay, .int .i64 sgen, .int .i64 sw, .int .i64 flip] 25 ∧ Below W.heap.size W W2) ⟨(Rw.new W #[.int .i64 0, .int .i64 0, .int .i64 0, .int .i64 0, .int .i64 0, .int .i64 0, .bool false, .bool false, .int .i64 0, .int .i64 0, .int .i64 0, .int .i64 0] 25).set _, below_drew (below_setRow ((Below.refl _ _).alloc (Nat.le_refl _) _) (Nat.le_refl _) _)⟩ ?_
  rintro W2 ⟨hR2, hb2⟩
  have HB2 := Lib.hid (HB.out.trans (hb2.mono HB.out.size))
  clear hb2
  simp only [List.take_succ_cons, List.take_zero, List.drop_succ_cons, List.drop_zero]
  have d0 : W2.cell? ⟨W.heap.size, 0, none⟩ = some (.int .i64 phase) := by rw [hR2.cell 0]; rfl
  have d1 : W2.cell? ⟨W.heap.size, 1, none⟩ = some (.int .i64 active) := by rw [hR2.cell 1]; rfl
  have d2 : W2.cell? ⟨W.heap.size, 2, none⟩ = some (.int .i64 r0) := by rw [hR2.cell 2]; rfl
  have d3 : W2.cell? ⟨W.heap.size, 3, none⟩ = some (.int .i64 r1) := by rw [hR2.cell 3]; rfl
  have d4 : W2.cell? ⟨W.heap.size, 4, none⟩ = some (.int .i64 w0) := by rw [hR2.cell 4]; rfl
  have d5 : W2.cell? ⟨W.heap.size, 5, none⟩ = some (.int .i64 w1) := by rw [hR2.cell 5]; rfl
  have d6 : W2.cell? ⟨W.heap.size, 6, none⟩ = some (.bool p0) := by rw [hR2.cell 6]; rfl
  have d7 : W2.cell? ⟨W.heap.size, 7, none⟩ = some (.bool p1) := by rw [hR2.cell 7]; rfl
  have d8 : W2.cell? ⟨W.heap.size, 8, none⟩ = some (.int .i64 sdelay) := by rw [hR2.cell 8]; rfl
  have d9 : W2.cell? ⟨W.heap.size, 9, none⟩ = some (.int .i64 sgen) := by rw [hR2.cell 9]; rfl
  have d10 : W2.cell? ⟨W.heap.size, 10, none⟩ = some (.int .i64 sw) := by rw [hR2.cell 10]; rfl
  have d11 : W2.cell? ⟨W.heap.size, 11, none⟩ = some (.int .i64 flip) := by rw [hR2.cell 11]; rfl
  clear hR2
  repeat (first | still_call (HM.out _ _) | still_step)
  refine wpStill_nil ?_
  go_wp2
  go_ret
  exact ⟨_, rfl, vals_lit W2 [phase, active, r0, r1, w0, w1, bitI p0, bitI p1, sdelay, sgen, sw, flip] 3, HB2.out.alloc HB2.out.size _⟩
theorem mfields_any (r : Rc) (fs : List Nat) (w : World) (hk : kindF r.kind = some fs) : Calls Tryd.prog 22 #[recV r] w (GotV w (fs.map (at_ r.all))) := by
  obtain ⟨k, rev, cnt, delay, gen, tick, pass, phase, active, r0, r1, w0, w1, p0, p1, sdelay, sgen, sw, flip⟩ := r
  rcases kind_some hk with ⟨hk1, rfl⟩ | ⟨hk1, rfl⟩ | ⟨hk1, rfl⟩ | ⟨hk1, rfl⟩ | ⟨hk1, rfl⟩ | ⟨hk1, rfl⟩ | ⟨hk1, rfl⟩ | ⟨hk1, rfl⟩ | ⟨hk1, rfl⟩ | ⟨hk1, rfl⟩ | ⟨hk1, rfl⟩
  · obtain rfl : k = 1 := hk1
    exact mfields_1 rev cnt delay gen tick pass phase active r0 r1 w0 w1 p0 p1 sdelay sgen sw flip _ w rfl
  · obtain rfl : k = 2 := hk1
    exact mfields_2 rev cnt delay gen tick pass phase active r0 r1 w0 w1 p0 p1 sdelay sgen sw flip _ w rfl
  · obtain rfl : k = 3 := hk1
    exact mfields_3 rev cnt delay gen tick pass phase active r0 r1 w0 w1 p0 p1 sdelay sgen sw flip _ w rfl
  · obtain rfl : k = 4 := hk1
    exact mfields_4 rev cnt delay gen tick pass phase active r0 r1 w0 w1 p0 p1 sdelay sgen sw flip _ w rfl
  · obtain rfl : k = 5 := hk1
    exact mfields_5 rev cnt delay gen tick pass phase active r0 r1 w0 w1 p0 p1 sdelay sgen sw flip _ w rfl
  · obtain rfl : k = 6 := hk1
    exact mfields_6 rev cnt delay gen tick pass phase active r0 r1 w0 w1 p0 p1 sdelay sgen sw flip _ w rfl
  · obtain rfl : k = 7 := hk1
    exact mfields_7 rev cnt delay gen tick pass phase active r0 r1 w0 w1 p0 p1 sdelay sgen sw flip _ w rfl
  · obtain rfl : k = 8 := hk1
    exact mfields_8 rev cnt delay gen tick pass phase active r0 r1 w0 w1 p0 p1 sdelay sgen sw flip _ w rfl
  · obtain rfl : k = 9 := hk1
    exact mfields_9 rev cnt delay gen tick pass phase active r0 r1 w0 w1 p0 p1 sdelay sgen sw flip _ w rfl
  · obtain rfl : k = 10 := hk1
    exact mfields_10 rev cnt delay gen tick pass phase active r0 r1 w0 w1 p0 p1 sdelay sgen sw flip _ w rfl
  · obtain rfl : k = 11 := hk1
    exact mfields_11 rev cnt delay gen tick pass phase active r0 r1 w0 w1 p0 p1 sdelay sgen sw flip _ w rfl
end Go.Proofs.YthombepmlepgfaaDoor
