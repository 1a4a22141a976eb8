/-
  What Next's walk shares: three blocks made, the results read.
  Package plan's own functions.
-/
import Derived.Test.YtchaeidmjoelnaaPlnF
import Derived.Test.YtchaeidmjoelnaaMayX
import Derived.Test.YtchaeidmjoelnaaStStepK
import Derived.Test.YtchaeidmjoelnaaEqs
import Derived.Deep.RegionHeld3
namespace Go.Proofs.Ytchaeidmjoelnaa
open Go.RowKit

theorem Rw.drewN {W : World} {b : Nat} {cs : Array Value} {t : TypeId} (h : Rw W b cs t) (n : Nat) : Rw (W.drewN n) b cs t := by
  unfold Rw at h ⊢
  simpa using h
theorem iv4 : (Try.prog.info? 42).map (·.size) = some 4 := by kernel_rfl
theorem results_tmp_cell {P : Program} {fn : Func} {p q : Tmp} {ty : TypeId} (h : fn.results = #[.tmp q, .cell p ty]) (tmps : Array Value) (w : World) (g : Nat) (t : TypeId) (cs : Array Value) (fr : Nat × Nat) (d : TypeDesc)
    (hp : tmps.getD p undef = .pointer (some ⟨g, 0, none⟩)) (hg : w.heap[g]? = some (.cells cs t fr))
    (hu : P.underlying ty = some d) (hd : (match d with | .struct _ | .array _ _ => true | _ => false) = true) (hi : (P.info? ty).map (·.size) = some cs.size) :
    (results fn tmps).run P w = .ok (.tuple #[tmps.getD q undef, .agg cs]) w := by
  have hp' : tmps[p]?.getD undef = .pointer (some ⟨g, 0, none⟩) := by simpa using hp
  simp [results, h, hp', asAddr, run_loadVar_row w g t ty cs fr d hg hu hd hi]
theorem three_rows (w : World) (cs vs x : Array Value) : Rw (((w.alloc (.cells cs 38)).alloc (.cells vs 42)).alloc (.cells x 72)) w.heap.size cs 38 ∧ Rw (((w.alloc (.cells cs 38)).alloc (.cells vs 42)).alloc (.cells x 72)) (w.heap.size + 1) vs 42 ∧ Rw (((w.alloc (.cells cs 38)).alloc (.cells vs 42)).alloc (.cells x 72)) (w.heap.size + 1 + 1) x 72 ∧ Below w.heap.size w (((w.alloc (.cells cs 38)).alloc (.cells vs 42)).alloc (.cells x 72)) := by
  have h0 := ((Rw.new w cs 38).alloc (.cells vs 42)).alloc (.cells x 72)
  have h1 := (Rw.new (w.alloc (.cells cs 38)) vs 42).alloc (.cells x 72)
  have h2 := Rw.new ((w.alloc (.cells cs 38)).alloc (.cells vs 42)) x 72
  simp only [size_alloc] at h1 h2
  exact ⟨h0, h1, h2, (((Below.refl _ _).alloc (Nat.le_refl _) _).alloc (by simp) _).alloc (by simp; omega) _⟩
end Go.Proofs.Ytchaeidmjoelnaa
namespace Go.Proofs.Ytchaeidmjoelnaa
open Go.RowKit

/-! Less -/
theorem pless_any (a b : Int) (w : World) (ha : Fits a) (hb : 0 ≤ b ∧ b ≤ 1073741824) : Calls Try.prog 49 #[.int .i64 a, .int .i64 b] w fun e w' => e = .returned (.int .i64 (lessI a b)) ∧ Below w.heap.size w w' := by
  unfold Fits at ha
  by_cases h : a ≤ b
  · have e1 : decide (a ≤ b) = true := decide_eq_true h
    have HE : Hid (lessI a b = 0) := Lib.hid (by unfold lessI; rw [if_pos h])
    clear h ha hb
    go_enter Try.func49, Try.ntmps49
    go_wp2
    go_ret
    exact ⟨by rw [HE.out]; rfl, Below.refl _ _⟩
  have e1 : decide (a ≤ b) = false := decide_eq_false h
  obtain ⟨d, hd⟩ : ∃ d, d = a - b := ⟨_, rfl⟩
  have e2 : wrap64 (a - b) = d := by rw [hd]; unfold wrap64; omega
  have e3 : decide (d < 0) = false := decide_eq_false (by omega)
  have HE : Hid (lessI a b = d) := Lib.hid (by unfold lessI; rw [if_neg h, hd]; omega)
  clear h ha hb hd
  go_enter Try.func49, Try.ntmps49
  go_wp2
  go_ret
  exact ⟨by rw [HE.out, ← e2]; rfl, Below.refl _ _⟩
set_option maxRecDepth 100000 in
set_option maxHeartbeats 8000000 in
theorem pfull_c (sl : Int) (ph ac r0 r1 w0 w1 dl gn sw fl a0 a1 b0 b1 : Int) (p0 p1 : Bool) (cs vs : Array Value) (w : World) (hcs : cs = stC ⟨ph, ac, r0, r1, w0, w1, p0, p1, dl, gn, sw, fl⟩) (hvs : vs = vwC ⟨a0, a1, b0, b1⟩) : Calls Try.prog 47 #[.agg cs, .agg vs, .int .i64 sl] w fun e w' => e = .returned (.bool (fullS ⟨ph, ac, r0, r1, w0, w1, p0, p1, dl, gn, sw, fl⟩ ⟨a0, a1, b0, b1⟩ sl)) ∧ Below w.heap.size w w' := by
  have HC := Lib.hid hcs
  have HV := Lib.hid hvs
  have HZC : Hid (cs.size = 12) := Lib.hid (by rw [hcs]; rfl)
  have HZV : Hid (vs.size = 4) := Lib.hid (by rw [hvs]; rfl)
  clear hcs hvs
  by_cases h0 : sl = 0
  · subst h0
    have HF : Hid (fullS ⟨ph, ac, r0, r1, w0, w1, p0, p1, dl, gn, sw, fl⟩ ⟨a0, a1, b0, b1⟩ 0 = (decide (1 ≤ w0) && (a0 == w0) && (b0 == w0))) := Lib.hid rfl
    obtain ⟨t0, e0⟩ : ∃ t, decide (1 ≤ w0) = t := ⟨_, rfl⟩
    obtain ⟨t1, e1⟩ : ∃ t, (a0 == w0) = t := ⟨_, rfl⟩
    obtain ⟨t2, e2⟩ : ∃ t, (b0 == w0) = t := ⟨_, rfl⟩
    have HE : Hid (fullS ⟨ph, ac, r0, r1, w0, w1, p0, p1, dl, gn, sw, fl⟩ ⟨a0, a1, b0, b1⟩ 0 = (t0 && t1 && t2)) := Lib.hid (by rw [HF.out, ← e0, ← e1, ← e2])
    clear HF
    go_enter Try.func47, Try.ntmps47
    go_upto_region 1 with (fail)
    refine name_w (fun W => Rw W w.heap.size cs 38 ∧ Rw W (w.heap.size + 1) vs 42 ∧ Below w.heap.size w W) ⟨(Rw.new _ _ _).alloc _, ?_, ((Below.refl _ _).alloc (Nat.le_refl _) _).alloc (by simp) _⟩ ?_
    · have h1 := Rw.new (w.alloc (.cells cs 38)) vs 42
      rw [size_alloc] at h1
      exact h1
    rintro W ⟨hR, hP, hb⟩
    have HB := Lib.hid hb
    have c4 : W.cell? ⟨w.heap.size, 4, none⟩ = some (.int .i64 w0) := by rw [hR.cell 4, HC.out]; rfl
    have c5 : W.cell? ⟨w.heap.size, 5, none⟩ = some (.int .i64 w1) := by rw [hR.cell 5, HC.out]; rfl
    have d0 : W.cell? ⟨(w.heap.size + 1), 0, none⟩ = some (.int .i64 a0) := by rw [hP.cell 0, HV.out]; rfl
    have d1 : W.cell? ⟨(w.heap.size + 1), 1, none⟩ = some (.int .i64 a1) := by rw [hP.cell 1, HV.out]; rfl
    have d2 : W.cell? ⟨(w.heap.size + 1), 2, none⟩ = some (.int .i64 b0) := by rw [hP.cell 2, HV.out]; rfl
    have d3 : W.cell? ⟨(w.heap.size + 1), 3, none⟩ = some (.int .i64 b1) := by rw [hP.cell 3, HV.out]; rfl
    clear hR hP hb
    cases t0 <;> cases t1 <;> cases t2
    all_goals go_wp2
    all_goals go_ret
    all_goals exact ⟨by rw [HE.out]; rfl, HB.out⟩
  have g0 : (sl == 0) = false := beq_eq_false_iff_ne.2 h0
  have g0b : (sl != 0) = true := by rw [bne, g0]; rfl
  by_cases h1 : sl = 1
  · subst h1
    have HF : Hid (fullS ⟨ph, ac, r0, r1, w0, w1, p0, p1, dl, gn, sw, fl⟩ ⟨a0, a1, b0, b1⟩ 1 = (decide (1 ≤ w1) && (a1 == w1) && (b1 == w1))) := Lib.hid rfl
    obtain ⟨t0, e0⟩ : ∃ t, decide (1 ≤ w1) = t := ⟨_, rfl⟩
    obtain ⟨t1, e1⟩ : ∃ t, (a1 == w1) = t := ⟨_, rfl⟩
    obtain ⟨t2, e2⟩ : ∃ t, (b1 == w1) = t := ⟨_, rfl⟩
    have HE : Hid (fullS ⟨ph, ac, r0, r1, w0, w1, p0, p1, dl, gn, sw, fl⟩ ⟨a0, a1, b0, b1⟩ 1 = (t0 && t1 && t2)) := Lib.hid (by rw [HF.out, ← e0, ← e1, ← e2])
    clear HF
    go_enter Try.func47, Try.ntmps47
    go_upto_region 1 with (fail)
    refine name_w (fun W => Rw W w.heap.size cs 38 ∧ Rw W (w.heap.size + 1) vs 42 ∧ Below w.heap.size w W) ⟨(Rw.new _ _ _).alloc _, ?_, ((Below.refl _ _).alloc (Nat.le_refl _) _).alloc (by simp) _⟩ ?_
    · have h1 := Rw.new (w.alloc (.cells cs 38)) vs 42
      rw [size_alloc] at h1
      exact h1
    rintro W ⟨hR, hP, hb⟩
    have HB := Lib.hid hb
    have c4 : W.cell? ⟨w.heap.size, 4, none⟩ = some (.int .i64 w0) := by rw [hR.cell 4, HC.out]; rfl
    have c5 : W.cell? ⟨w.heap.size, 5, none⟩ = some (.int .i64 w1) := by rw [hR.cell 5, HC.out]; rfl
    have d0 : W.cell? ⟨(w.heap.size + 1), 0, none⟩ = some (.int .i64 a0) := by rw [hP.cell 0, HV.out]; rfl
    have d1 : W.cell? ⟨(w.heap.size + 1), 1, none⟩ = some (.int .i64 a1) := by rw [hP.cell 1, HV.out]; rfl
    have d2 : W.cell? ⟨(w.heap.size + 1), 2, none⟩ = some (.int .i64 b0) := by rw [hP.cell 2, HV.out]; rfl
    have d3 : W.cell? ⟨(w.heap.size + 1), 3, none⟩ = some (.int .i64 b1) := by rw [hP.cell 3, HV.out]; rfl
    clear hR hP hb
    cases t0 <;> cases t1 <;> cases t2
    all_goals go_wp2
    all_goals go_ret
    all_goals exact ⟨by rw [HE.out]; rfl, HB.out⟩
  have g1 : (sl == 1) = false := beq_eq_false_iff_ne.2 h1
  have g1b : (sl != 1) = true := by rw [bne, g1]; rfl
  have HE : Hid (fullS ⟨ph, ac, r0, r1, w0, w1, p0, p1, dl, gn, sw, fl⟩ ⟨a0, a1, b0, b1⟩ sl = false) := Lib.hid (by unfold fullS; rw [if_neg h0, if_neg h1])
  clear h0 h1
  go_enter Try.func47, Try.ntmps47
  go_upto_region 1 with (fail)
  refine name_w (fun W => Rw W w.heap.size cs 38 ∧ Rw W (w.heap.size + 1) vs 42 ∧ Below w.heap.size w W) ⟨(Rw.new _ _ _).alloc _, ?_, ((Below.refl _ _).alloc (Nat.le_refl _) _).alloc (by simp) _⟩ ?_
  · have h1 := Rw.new (w.alloc (.cells cs 38)) vs 42
    rw [size_alloc] at h1
    exact h1
  rintro W ⟨hR, hP, hb⟩
  have HB := Lib.hid hb
  clear hR hP hb
  go_wp2
  go_ret
  exact ⟨by rw [HE.out]; rfl, HB.out⟩
def ZR0 : Array Value := #[.int .i64 0, .int .i64 0, .int .i64 0, .int .i64 0, .int .i64 0, .int .i64 0, .bool false, .int .i64 0, .int .i64 0, .int .i64 0, .int .i64 0, .int .i64 0, .int .i64 0, .bool false, .bool false, .int .i64 0, .int .i64 0, .int .i64 0, .int .i64 0]
theorem setRow_cell (b A i : Nat) (W : World) (cs : Array Value) (h : A ≠ b) : (W.setRow b cs).cell? ⟨A, i, none⟩ = W.cell? ⟨A, i, none⟩ := by
  simp [World.cell?, setRow_block W b A cs h]
/-- What is to be done in a switch. -/
def switchX (sw gn : Int) (fo : Bool) : Int × Rc :=
  if sw = 2 then (5, rcK 0 0)
  else if sw = 1 then (if fo = true then (3, rcK 6 gn) else (4, rcK 7 gn))
  else if fo = true then (2, rcK 5 (gn + 1)) else (0, rcK 0 0)
set_option maxRecDepth 100000 in
set_option maxHeartbeats 8000000 in
theorem pswitch_c (ph ac r0 r1 w0 w1 dl gn sw fl : Int) (p0 p1 fo : Bool) (cs : Array Value) (w : World) (hcs : cs = stC ⟨ph, ac, r0, r1, w0, w1, p0, p1, dl, gn, sw, fl⟩) (hsw : sw = 0 ∨ sw = 1 ∨ sw = 2) (hgn : 0 ≤ gn ∧ gn ≤ 1048576) : Calls Try.prog 48 #[.agg cs, .bool fo] w fun e w' => e = .returned (.tuple #[.int .i64 (switchX sw gn fo).1, recV (switchX sw gn fo).2]) ∧ Below w.heap.size w w' := by
  have HC := Lib.hid hcs
  have HZC : Hid (cs.size = 12) := Lib.hid (by rw [hcs]; rfl)
  have HGN := Lib.hid hgn
  have HSW := Lib.hid hsw
  clear hcs hgn hsw
  go_enter Try.func48, Try.ntmps48
  go_upto_region 2 with (fail)
  obtain ⟨Z, hZ⟩ : ∃ x, x = w.heap.size + 1 := ⟨_, rfl⟩
  rw [← hZ]
  refine name_w (fun W => Rw W w.heap.size cs 38 ∧ Rw W Z ZR0 72 ∧ Below w.heap.size w W) ⟨(Rw.new _ _ _).alloc _, ?_, ((Below.refl _ _).alloc (Nat.le_refl _) _).alloc (by simp) _⟩ ?_
  · have h1 := Rw.new (w.alloc (.cells cs 38)) ZR0 72
    rw [size_alloc, ← hZ] at h1
    exact h1
  have HNE : Hid (w.heap.size ≠ Z) := Lib.hid (by omega)
  have HZG : Hid (w.heap.size ≤ Z) := Lib.hid (by omega)
  rintro u0 ⟨h1, h2, h3⟩
  have HR1 := Lib.hid h1
  have HZ1 := Lib.hid h2
  have HB1 := Lib.hid h3
  clear h1 h2 h3 hZ
  have c9 : u0.cell? ⟨w.heap.size, 9, none⟩ = some (.int .i64 gn) := by rw [HR1.out.cell 9, HC.out]; rfl
  have c10 : u0.cell? ⟨w.heap.size, 10, none⟩ = some (.int .i64 sw) := by rw [HR1.out.cell 10, HC.out]; rfl
  cases fo with
  | true =>
    have HSW' : Hid (sw = 0 ∨ sw = 1 ∨ sw = 2) := HSW
    rcases HSW'.out with rfl | rfl | rfl
    · clear HSW HSW'
      have HE : Hid (switchX 0 gn true = (2, rcK 5 (gn + 1))) := Lib.hid (by unfold switchX; simp_all)
      go_upto_region 3 with (fail)
      have HZ2 : Hid (Rw u0.drew Z ZR0 72) := Lib.hid HZ1.out.drew
      have HB2 : Hid (Below w.heap.size w u0.drew) := Lib.hid (below_drew HB1.out)
      have c9d : u0.drew.cell? ⟨w.heap.size, 9, none⟩ = some (.int .i64 gn) := c9
      have wgn : wrap64 (gn + 1) = gn + 1 := by unfold wrap64; have := HGN.out; omega
      have wgn2 : IntKind.i64.wrap (gn + 1) = gn + 1 := IntWalk.i64_in _ (by have := HGN.out; omega)
      refine wp_region_held_drew (S := fun Wx => Wx.cell? ⟨w.heap.size, 9, none⟩ = some (.int .i64 gn)) (by kernel_rfl) (c9d) (fun hHeld => ?_)
      refine wpAnyH_take (i := 0) (oi := { dst := some 14, op := Op.fieldAddr 38 (Operand.tmp 2) 6, type := 0, pos := "plan.go:43", after := #[{ on := 4, ground := Ground.gcOnly Departure.lateStores }], guard := none }) (v := ?_) rfl (by kernel_rfl) (by kernel_rfl) (by kernel_rfl) (fun _ _ _ h => h) (Or.inl ⟨by rfl, ?_⟩) hHeld ?_
      rotate_left
      · intro Wx hS0
        first | (go_simp; done) | (go_simp; with_reducible rfl)
      (try simp only [Act.put, List.setIfInBounds_toArray, List.set_cons_zero, List.set_cons_succ])
      refine wpAnyH_take (i := 1) (oi := { dst := some 15, op := Op.load 3 (Operand.tmp 14), type := 3, pos := "plan.go:43", after := #[{ on := 0, ground := Ground.data }, { on := 4, ground := Ground.gcOnly Departure.lateStores }], guard := none }) (v := ?_) rfl (by kernel_rfl) (by kernel_rfl) (by kernel_rfl) (fun _ _ _ h => h) (Or.inl ⟨by rfl, ?_⟩) hHeld ?_
      rotate_left
      · intro Wx hS0
        first | (go_simp; done) | (go_simp; with_reducible rfl)
      (try simp only [Act.put, List.setIfInBounds_toArray, List.set_cons_zero, List.set_cons_succ])
      refine wpAnyH_take (i := 2) (oi := { dst := some 16, op := Op.binOp BinOp.add 3 (Operand.tmp 15) (Operand.const (Value.int IntKind.i64 1)) 3, type := 3, pos := "plan.go:43", after := #[{ on := 1, ground := Ground.data }, { on := 4, ground := Ground.gcOnly Departure.lateStores }], guard := none }) (v := ?_) rfl (by kernel_rfl) (by kernel_rfl) (by kernel_rfl) (fun _ _ _ h => h) (Or.inl ⟨by rfl, ?_⟩) hHeld ?_
      rotate_left
      · intro Wx hS0
        first | (go_simp; done) | (go_simp; with_reducible rfl)
      (try simp only [Act.put, List.setIfInBounds_toArray, List.set_cons_zero, List.set_cons_succ])
      refine wpAnyH_take (i := 3) (oi := { dst := some 17, op := Op.build 72 #[(0, Operand.const (Value.int IntKind.i64 5)), (4, Operand.tmp 16)], type := 72, pos := "plan.go:43", after := #[{ on := 2, ground := Ground.data }, { on := 4, ground := Ground.gcOnly Departure.lateStores }], guard := none }) (v := ?_) rfl (by kernel_rfl) (by kernel_rfl) (by kernel_rfl) (fun _ _ _ h => h) (Or.inl ⟨by rfl, ?_⟩) hHeld ?_
      rotate_left
      · intro Wx hS0
        first | (go_simp; done) | (go_simp; with_reducible rfl)
      (try simp only [Act.put, List.setIfInBounds_toArray, List.set_cons_zero, List.set_cons_succ])
      refine wpAnyH_take (i := 4) (oi := { dst := some 4, op := Op.assign (Operand.const (Value.int IntKind.i64 2)), type := 3, pos := "plan.go:43", after := #[{ on := 0, ground := Ground.textOnly Departure.lateStores }, { on := 1, ground := Ground.textOnly Departure.lateStores }, { on := 2, ground := Ground.textOnly Departure.lateStores }, { on := 3, ground := Ground.textOnly Departure.lateStores }], guard := none }) (v := ?_) rfl (by kernel_rfl) (by kernel_rfl) (by kernel_rfl) (fun _ _ _ h => h) (Or.inl ⟨by rfl, ?_⟩) hHeld ?_
      rotate_left
      · intro Wx hS0
        first | (go_simp; done) | (go_simp; with_reducible rfl)
      (try simp only [Act.put, List.setIfInBounds_toArray, List.set_cons_zero, List.set_cons_succ])
      refine wpAnyH_ready (rs := [5]) (by kernel_rfl) (by simp) ?_
      refine AllReadyH.cons (o := { dst := none, op := Op.store 72 (Operand.tmp 5) (Operand.tmp 17), type := 0, pos := "plan.go:43", after := #[{ on := 3, ground := Ground.data }, { on := 4, ground := Ground.chain }, { on := 0, ground := Ground.phase }, { on := 1, ground := Ground.phase }, { on := 2, ground := Ground.phase }, { on := 3, ground := Ground.phase }, { on := 4, ground := Ground.phase }], guard := none }) rfl (fun K hK => ?_) AllReadyH.nil
      rw [if_pos (by rfl)]
      refine wp_store_row 72 (.tmp 5) (.tmp 17) rfl Z (recC (rcK 5 (gn + 1))) rfl rfl 72 _ HZ2.out i19 rfl (recC_one _) ?_
      refine hK.out _ _ ?_ (fun hHeld => ?_)
      · exact (by rw [(setRow_cell Z w.heap.size 9 _ (recC (rcK 5 (gn + 1))) HNE.out)]; exact c9d)
      clear hK K
      (try simp only [Act.put])
      refine wpAnyH_done (by kernel_rfl) ?_ _
      go_wp2
      refine bodyPost_ret (results_tmp_cell rfl _ _ Z 72 (recC (rcK 5 (gn + 1))) (0, 0) _ rfl (HZ2.out.set (recC (rcK 5 (gn + 1)))) Try.underlying72 rfl i19) rfl ?_
      exact ⟨by rw [HE.out]; rfl, below_setRow HB2.out HZG.out (recC (rcK 5 (gn + 1)))⟩
    · clear HSW HSW'
      have HE : Hid (switchX 1 gn true = (3, rcK 6 gn)) := Lib.hid (by unfold switchX; simp_all)
      go_upto_region 5 with (fail)
      have HZ2 : Hid (Rw u0.drew Z ZR0 72) := Lib.hid HZ1.out.drew
      have HB2 : Hid (Below w.heap.size w u0.drew) := Lib.hid (below_drew HB1.out)
      have c9d : u0.drew.cell? ⟨w.heap.size, 9, none⟩ = some (.int .i64 gn) := c9
      refine wp_region_held_drew (S := fun Wx => Wx.cell? ⟨w.heap.size, 9, none⟩ = some (.int .i64 gn)) (by kernel_rfl) (c9d) (fun hHeld => ?_)
      refine wpAnyH_take (i := 0) (oi := { dst := some 25, op := Op.fieldAddr 38 (Operand.tmp 2) 6, type := 0, pos := "plan.go:45", after := #[{ on := 3, ground := Ground.gcOnly Departure.lateStores }], guard := none }) (v := ?_) rfl (by kernel_rfl) (by kernel_rfl) (by kernel_rfl) (fun _ _ _ h => h) (Or.inl ⟨by rfl, ?_⟩) hHeld ?_
      rotate_left
      · intro Wx hS0
        first | (go_simp; done) | (go_simp; with_reducible rfl)
      (try simp only [Act.put, List.setIfInBounds_toArray, List.set_cons_zero, List.set_cons_succ])
      refine wpAnyH_take (i := 1) (oi := { dst := some 26, op := Op.load 3 (Operand.tmp 25), type := 3, pos := "plan.go:45", after := #[{ on := 0, ground := Ground.data }, { on := 3, ground := Ground.gcOnly Departure.lateStores }], guard := none }) (v := ?_) rfl (by kernel_rfl) (by kernel_rfl) (by kernel_rfl) (fun _ _ _ h => h) (Or.inl ⟨by rfl, ?_⟩) hHeld ?_
      rotate_left
      · intro Wx hS0
        first | (go_simp; done) | (go_simp; with_reducible rfl)
      (try simp only [Act.put, List.setIfInBounds_toArray, List.set_cons_zero, List.set_cons_succ])
      refine wpAnyH_take (i := 2) (oi := { dst := some 27, op := Op.build 72 #[(0, Operand.const (Value.int IntKind.i64 6)), (4, Operand.tmp 26)], type := 72, pos := "plan.go:45", after := #[{ on := 1, ground := Ground.data }, { on := 3, ground := Ground.gcOnly Departure.lateStores }], guard := none }) (v := ?_) rfl (by kernel_rfl) (by kernel_rfl) (by kernel_rfl) (fun _ _ _ h => h) (Or.inl ⟨by rfl, ?_⟩) hHeld ?_
      rotate_left
      · intro Wx hS0
        first | (go_simp; done) | (go_simp; with_reducible rfl)
      (try simp only [Act.put, List.setIfInBounds_toArray, List.set_cons_zero, List.set_cons_succ])
      refine wpAnyH_take (i := 3) (oi := { dst := some 4, op := Op.assign (Operand.const (Value.int IntKind.i64 3)), type := 3, pos := "plan.go:45", after := #[{ on := 0, ground := Ground.textOnly Departure.lateStores }, { on := 1, ground := Ground.textOnly Departure.lateStores }, { on := 2, ground := Ground.textOnly Departure.lateStores }], guard := none }) (v := ?_) rfl (by kernel_rfl) (by kernel_rfl) (by kernel_rfl) (fun _ _ _ h => h) (Or.inl ⟨by rfl, ?_⟩) hHeld ?_
      rotate_left
      · intro Wx hS0
        first | (go_simp; done) | (go_simp; with_reducible rfl)
      (try simp only [Act.put, List.setIfInBounds_toArray, List.set_cons_zero, List.set_cons_succ])
      refine wpAnyH_ready (rs := [4]) (by kernel_rfl) (by simp) ?_
      refine AllReadyH.cons (o := { dst := none, op := Op.store 72 (Operand.tmp 5) (Operand.tmp 27), type := 0, pos := "plan.go:45", after := #[{ on := 2, ground := Ground.data }, { on := 3, ground := Ground.chain }, { on := 0, ground := Ground.phase }, { on := 1, ground := Ground.phase }, { on := 2, ground := Ground.phase }, { on := 3, ground := Ground.phase }], guard := none }) rfl (fun K hK => ?_) AllReadyH.nil
      rw [if_pos (by rfl)]
      refine wp_store_row 72 (.tmp 5) (.tmp 27) rfl Z (recC (rcK 6 gn)) rfl rfl 72 _ HZ2.out i19 rfl (recC_one _) ?_
      refine hK.out _ _ ?_ (fun hHeld => ?_)
      · exact (by rw [(setRow_cell Z w.heap.size 9 _ (recC (rcK 6 gn)) HNE.out)]; exact c9d)
      clear hK K
      (try simp only [Act.put])
      refine wpAnyH_done (by kernel_rfl) ?_ _
      go_wp2
      refine bodyPost_ret (results_tmp_cell rfl _ _ Z 72 (recC (rcK 6 gn)) (0, 0) _ rfl (HZ2.out.set (recC (rcK 6 gn))) Try.underlying72 rfl i19) rfl ?_
      exact ⟨by rw [HE.out]; rfl, below_setRow HB2.out HZG.out (recC (rcK 6 gn))⟩
    · clear HSW HSW'
      have HE : Hid (switchX 2 gn true = (5, rcK 0 0)) := Lib.hid (by unfold switchX; simp_all)
      go_wp2_with (first | (refine wpList_plain rfl fun _ hK => wp_store_row 72 (.tmp 5) (.tmp 39) rfl Z (recC (rcK 0 0)) rfl rfl 72 _ HZ1.out i19 rfl (recC_one _) (hK _ _ ?_); clear hK))
      refine bodyPost_ret (results_tmp_cell rfl _ _ Z 72 (recC (rcK 0 0)) (0, 0) _ rfl (HZ1.out.set (recC (rcK 0 0))) Try.underlying72 rfl i19) rfl ?_
      exact ⟨by rw [HE.out]; rfl, below_setRow HB1.out HZG.out (recC (rcK 0 0))⟩
  | false =>
    have HSW' : Hid (sw = 0 ∨ sw = 1 ∨ sw = 2) := HSW
    rcases HSW'.out with rfl | rfl | rfl
    · clear HSW HSW'
      have HE : Hid (switchX 0 gn false = (0, rcK 0 0)) := Lib.hid (by unfold switchX; simp_all)
      go_wp2_with (first | (refine wpList_plain rfl fun _ hK => wp_store_row 72 (.tmp 5) (.tmp 6) rfl Z (recC (rcK 0 0)) rfl rfl 72 _ HZ1.out i19 rfl (recC_one _) (hK _ _ ?_); clear hK))
      refine bodyPost_ret (results_tmp_cell rfl _ _ Z 72 (recC (rcK 0 0)) (0, 0) _ rfl (HZ1.out.set (recC (rcK 0 0))) Try.underlying72 rfl i19) rfl ?_
      exact ⟨by rw [HE.out]; rfl, below_setRow HB1.out HZG.out (recC (rcK 0 0))⟩
    · clear HSW HSW'
      have HE : Hid (switchX 1 gn false = (4, rcK 7 gn)) := Lib.hid (by unfold switchX; simp_all)
      go_upto_region 7 with (fail)
      have HZ2 : Hid (Rw u0.drew Z ZR0 72) := Lib.hid HZ1.out.drew
      have HB2 : Hid (Below w.heap.size w u0.drew) := Lib.hid (below_drew HB1.out)
      have c9d : u0.drew.cell? ⟨w.heap.size, 9, none⟩ = some (.int .i64 gn) := c9
      refine wp_region_held_drew (S := fun Wx => Wx.cell? ⟨w.heap.size, 9, none⟩ = some (.int .i64 gn)) (by kernel_rfl) (c9d) (fun hHeld => ?_)
      refine wpAnyH_take (i := 0) (oi := { dst := some 32, op := Op.fieldAddr 38 (Operand.tmp 2) 6, type := 0, pos := "plan.go:47", after := #[{ on := 3, ground := Ground.gcOnly Departure.lateStores }], guard := none }) (v := ?_) rfl (by kernel_rfl) (by kernel_rfl) (by kernel_rfl) (fun _ _ _ h => h) (Or.inl ⟨by rfl, ?_⟩) hHeld ?_
      rotate_left
      · intro Wx hS0
        first | (go_simp; done) | (go_simp; with_reducible rfl)
      (try simp only [Act.put, List.setIfInBounds_toArray, List.set_cons_zero, List.set_cons_succ])
      refine wpAnyH_take (i := 1) (oi := { dst := some 33, op := Op.load 3 (Operand.tmp 32), type := 3, pos := "plan.go:47", after := #[{ on := 0, ground := Ground.data }, { on := 3, ground := Ground.gcOnly Departure.lateStores }], guard := none }) (v := ?_) rfl (by kernel_rfl) (by kernel_rfl) (by kernel_rfl) (fun _ _ _ h => h) (Or.inl ⟨by rfl, ?_⟩) hHeld ?_
      rotate_left
      · intro Wx hS0
        first | (go_simp; done) | (go_simp; with_reducible rfl)
      (try simp only [Act.put, List.setIfInBounds_toArray, List.set_cons_zero, List.set_cons_succ])
      refine wpAnyH_take (i := 2) (oi := { dst := some 34, op := Op.build 72 #[(0, Operand.const (Value.int IntKind.i64 7)), (4, Operand.tmp 33)], type := 72, pos := "plan.go:47", after := #[{ on := 1, ground := Ground.data }, { on := 3, ground := Ground.gcOnly Departure.lateStores }], guard := none }) (v := ?_) rfl (by kernel_rfl) (by kernel_rfl) (by kernel_rfl) (fun _ _ _ h => h) (Or.inl ⟨by rfl, ?_⟩) hHeld ?_
      rotate_left
      · intro Wx hS0
        first | (go_simp; done) | (go_simp; with_reducible rfl)
      (try simp only [Act.put, List.setIfInBounds_toArray, List.set_cons_zero, List.set_cons_succ])
      refine wpAnyH_take (i := 3) (oi := { dst := some 4, op := Op.assign (Operand.const (Value.int IntKind.i64 4)), type := 3, pos := "plan.go:47", after := #[{ on := 0, ground := Ground.textOnly Departure.lateStores }, { on := 1, ground := Ground.textOnly Departure.lateStores }, { on := 2, ground := Ground.textOnly Departure.lateStores }], guard := none }) (v := ?_) rfl (by kernel_rfl) (by kernel_rfl) (by kernel_rfl) (fun _ _ _ h => h) (Or.inl ⟨by rfl, ?_⟩) hHeld ?_
      rotate_left
      · intro Wx hS0
        first | (go_simp; done) | (go_simp; with_reducible rfl)
      (try simp only [Act.put, List.setIfInBounds_toArray, List.set_cons_zero, List.set_cons_succ])
      refine wpAnyH_ready (rs := [4]) (by kernel_rfl) (by simp) ?_
      refine AllReadyH.cons (o := { dst := none, op := Op.store 72 (Operand.tmp 5) (Operand.tmp 34), type := 0, pos := "plan.go:47", after := #[{ on := 2, ground := Ground.data }, { on := 3, ground := Ground.chain }, { on := 0, ground := Ground.phase }, { on := 1, ground := Ground.phase }, { on := 2, ground := Ground.phase }, { on := 3, ground := Ground.phase }], guard := none }) rfl (fun K hK => ?_) AllReadyH.nil
      rw [if_pos (by rfl)]
      refine wp_store_row 72 (.tmp 5) (.tmp 34) rfl Z (recC (rcK 7 gn)) rfl rfl 72 _ HZ2.out i19 rfl (recC_one _) ?_
      refine hK.out _ _ ?_ (fun hHeld => ?_)
      · exact (by rw [(setRow_cell Z w.heap.size 9 _ (recC (rcK 7 gn)) HNE.out)]; exact c9d)
      clear hK K
      (try simp only [Act.put])
      refine wpAnyH_done (by kernel_rfl) ?_ _
      go_wp2
      refine bodyPost_ret (results_tmp_cell rfl _ _ Z 72 (recC (rcK 7 gn)) (0, 0) _ rfl (HZ2.out.set (recC (rcK 7 gn))) Try.underlying72 rfl i19) rfl ?_
      exact ⟨by rw [HE.out]; rfl, below_setRow HB2.out HZG.out (recC (rcK 7 gn))⟩
    · clear HSW HSW'
      have HE : Hid (switchX 2 gn false = (5, rcK 0 0)) := Lib.hid (by unfold switchX; simp_all)
      go_wp2_with (first | (refine wpList_plain rfl fun _ hK => wp_store_row 72 (.tmp 5) (.tmp 39) rfl Z (recC (rcK 0 0)) rfl rfl 72 _ HZ1.out i19 rfl (recC_one _) (hK _ _ ?_); clear hK))
      refine bodyPost_ret (results_tmp_cell rfl _ _ Z 72 (recC (rcK 0 0)) (0, 0) _ rfl (HZ1.out.set (recC (rcK 0 0))) Try.underlying72 rfl i19) rfl ?_
      exact ⟨by rw [HE.out]; rfl, below_setRow HB1.out HZG.out (recC (rcK 0 0))⟩
set_option maxRecDepth 100000 in
set_option maxHeartbeats 8000000 in
theorem pnext_c (now : Int) (ph ac r0 r1 w0 w1 dl gn sw fl a0 a1 b0 b1 : Int) (p0 p1 : Bool) (cs vs : Array Value) (w : World) (hcs : cs = stC ⟨ph, ac, r0, r1, w0, w1, p0, p1, dl, gn, sw, fl⟩) (hvs : vs = vwC ⟨a0, a1, b0, b1⟩) (hac : ac = 0 ∨ ac = 1) (hsw : sw = 0 ∨ sw = 1 ∨ sw = 2) (hgn : 0 ≤ gn ∧ gn ≤ 1048576) (hfl : 0 ≤ fl ∧ fl ≤ 1073741824) (hnow : Fits now) : Calls Try.prog 34 #[.agg cs, .agg vs, .int .i64 now] w fun e w' => e = .returned (.tuple #[.int .i64 (nextS ⟨ph, ac, r0, r1, w0, w1, p0, p1, dl, gn, sw, fl⟩ ⟨a0, a1, b0, b1⟩ now).1, recV (nextS ⟨ph, ac, r0, r1, w0, w1, p0, p1, dl, gn, sw, fl⟩ ⟨a0, a1, b0, b1⟩ now).2]) ∧ Below w.heap.size w w' := by
  have HC := Lib.hid hcs
  have HV := Lib.hid hvs
  have HZC : Hid (cs.size = 12) := Lib.hid (by rw [hcs]; rfl)
  have HZV : Hid (vs.size = 4) := Lib.hid (by rw [hvs]; rfl)
  obtain ⟨fo, hfo0⟩ : ∃ x, x = fullS ⟨ph, ac, r0, r1, w0, w1, p0, p1, dl, gn, sw, fl⟩ ⟨a0, a1, b0, b1⟩ (1 - ac) := ⟨_, rfl⟩
  obtain ⟨ls, hls⟩ : ∃ x, x = lessI now fl := ⟨_, rfl⟩
  obtain ⟨sx, hsx⟩ : ∃ x, x = switchX sw gn fo := ⟨_, rfl⟩
  have HX := Lib.hid hsx
  have HFU : Hid (∀ W, Calls Try.prog 47 #[.agg cs, .agg vs, .int .i64 (1 - ac)] W fun e w' => e = .returned (.bool fo) ∧ Below W.heap.size W w') := Lib.hid (fun W => by rw [hfo0]; exact pfull_c (1 - ac) ph ac r0 r1 w0 w1 dl gn sw fl a0 a1 b0 b1 p0 p1 cs vs W hcs hvs)
  have HLS : Hid (∀ W, Calls Try.prog 49 #[.int .i64 now, .int .i64 fl] W fun e w' => e = .returned (.int .i64 ls) ∧ Below W.heap.size W w') := Lib.hid (fun W => by rw [hls]; exact pless_any now fl W hnow hfl)
  have HSWC : Hid (∀ W, Calls Try.prog 48 #[.agg cs, .bool fo] W fun e w' => e = .returned (.tuple #[.int .i64 sx.1, recV sx.2]) ∧ Below W.heap.size W w') := Lib.hid (fun W => by rw [hsx]; exact pswitch_c ph ac r0 r1 w0 w1 dl gn sw fl p0 p1 fo cs W hcs hsw hgn)
  rw [show nextS ⟨ph, ac, r0, r1, w0, w1, p0, p1, dl, gn, sw, fl⟩ ⟨a0, a1, b0, b1⟩ now = nextX ph sw gn dl fo ls by rw [hfo0, hls]; rfl]
  have HA2 := Lib.hid hac
  clear hcs hvs hfo0 hls hsx hac hsw hgn hfl hnow
  go_enter Try.func34, Try.ntmps34
  go_upto_region 1 with (fail)
  obtain ⟨Z, hZ⟩ : ∃ x, x = w.heap.size + 1 + 1 := ⟨_, rfl⟩
  rw [show w.heap.size + 2 = Z by omega]
  refine name_w (fun W => Rw W w.heap.size cs 38 ∧ Rw W (w.heap.size + 1) vs 42 ∧ Rw W Z ZR0 72 ∧ Below w.heap.size w W) ⟨((Rw.new _ _ _).alloc _).alloc _, ?_, ?_, (((Below.refl _ _).alloc (Nat.le_refl _) _).alloc (by simp) _).alloc (by simp; omega) _⟩ ?_
  · have h1 := Rw.new (w.alloc (.cells cs 38)) vs 42
    rw [size_alloc] at h1
    exact h1.alloc _
  · have h1 := Rw.new ((w.alloc (.cells cs 38)).alloc (.cells vs 42)) ZR0 72
    rw [size_alloc, size_alloc, ← hZ] at h1
    exact h1
  have HNE : Hid (w.heap.size ≠ Z) := Lib.hid (by omega)
  have HZG : Hid (w.heap.size ≤ Z) := Lib.hid (by omega)
  rintro u0 ⟨h1, h2, h3, h4⟩
  have HR0 := Lib.hid h1
  have HP0 := Lib.hid h2
  have HZ0 := Lib.hid h3
  have HB0 := Lib.hid h4
  have c1 : u0.cell? ⟨w.heap.size, 1, none⟩ = some (.int .i64 ac) := by rw [h1.cell 1, HC.out]; rfl
  clear h1 h2 h3 h4 hZ
  rcases HA2.out with rfl | rfl
  all_goals (
    go_wp2_with (first | (refine wpList_load_any (by rfl) 38 (.tmp 3) rfl w.heap.size rfl 38 cs (0, 0) _ HR0.out Try.underlying38 rfl (by rw [HZC.out]; exact i12) ?_) | (refine wpList_load_any (by rfl) 42 (.tmp 4) rfl (w.heap.size + 1) rfl 42 vs (0, 0) _ HP0.out Try.underlying42 rfl (by rw [HZV.out]; exact iv4) ?_))
    refine (HFU.out _).mono ?_
    rintro e u1 ⟨rfl, hb⟩
    have HR1 := Lib.hid (HR0.out.under hb HR0.out.lt)
    have HZ1 := Lib.hid (HZ0.out.under hb HZ0.out.lt)
    have HB1 := Lib.hid (HB0.out.trans (hb.mono HB0.out.size))
    have HAL : Hid (w.heap.size < u1.heap.size) := Lib.hid (Nat.lt_of_lt_of_le HR0.out.lt hb.size)
    clear hb HR0 HP0 HZ0 HB0 c1
    have c0 : u1.cell? ⟨w.heap.size, 0, none⟩ = some (.int .i64 ph) := by rw [HR1.out.cell 0, HC.out]; rfl
    have c8 : u1.cell? ⟨w.heap.size, 8, none⟩ = some (.int .i64 dl) := by rw [HR1.out.cell 8, HC.out]; rfl
    have c11 : u1.cell? ⟨w.heap.size, 11, none⟩ = some (.int .i64 fl) := by rw [HR1.out.cell 11, HC.out]; rfl
    by_cases h41 : ph = 1
    case pos =>
      have e41 : (ph == 1) = true := by rw [h41]; exact beq_self_eq_true _
      have K41 := Lib.hid h41
      clear h41
      by_cases hf : fo = true
      case pos =>
        have K42 := Lib.hid hf
        have hfo := hf
        clear hf
        have HE : Hid (nextX ph sw gn dl fo ls = (1, rcK 3 0)) := Lib.hid (by have q41 := K41.out; have q42 := K42.out; unfold nextX; simp_all)
        go_wp2_with (first | (refine wpList_plain rfl fun _ hK => wp_store_row 72 (.tmp 7) (.tmp 27) rfl Z (recC (rcK 3 0)) rfl rfl 72 _ HZ1.out i19 rfl (recC_one _) (hK _ _ ?_); clear hK))
        refine bodyPost_ret (results_tmp_cell rfl _ _ Z 72 (recC (rcK 3 0)) (0, 0) _ rfl (HZ1.out.set (recC (rcK 3 0))) Try.underlying72 rfl i19) rfl ?_
        exact ⟨by rw [HE.out]; rfl, below_setRow HB1.out HZG.out (recC (rcK 3 0))⟩
      have hfo : fo = false := by simpa using hf
      have K42 := Lib.hid hfo
      clear hf
      have HE : Hid (nextX ph sw gn dl fo ls = (0, rcK 0 0)) := Lib.hid (by have q41 := K41.out; have q42 := K42.out; unfold nextX; simp_all)
      go_wp2_with (first | (refine wpList_plain rfl fun _ hK => wp_store_row 72 (.tmp 7) (.tmp 41) rfl Z (recC (rcK 0 0)) rfl rfl 72 _ HZ1.out i19 rfl (recC_one _) (hK _ _ ?_); clear hK))
      refine bodyPost_ret (results_tmp_cell rfl _ _ Z 72 (recC (rcK 0 0)) (0, 0) _ rfl (HZ1.out.set (recC (rcK 0 0))) Try.underlying72 rfl i19) rfl ?_
      exact ⟨by rw [HE.out]; rfl, below_setRow HB1.out HZG.out (recC (rcK 0 0))⟩
    have e41 : (ph == 1) = false := beq_eq_false_iff_ne.2 h41
    have K41 := Lib.hid h41
    clear h41
    by_cases h43 : ph = 3
    case pos =>
      have e43 : (ph == 3) = true := by rw [h43]; exact beq_self_eq_true _
      have K43 := Lib.hid h43
      clear h43
      have HE : Hid (nextX ph sw gn dl fo ls = sx) := Lib.hid (by have q41 := K41.out; have q43 := K43.out; rw [HX.out]; unfold nextX switchX; simp_all)
      go_wp2_with (first | (refine wpList_load_any (by rfl) 38 (.tmp 3) rfl w.heap.size rfl 38 cs (0, 0) _ HR1.out Try.underlying38 rfl (by rw [HZC.out]; exact i12) ?_))
      refine (HSWC.out _).mono ?_
      rintro e u2 ⟨rfl, hb⟩
      have HZ2 := Lib.hid (HZ1.out.under hb HZ1.out.lt)
      have HB2 := Lib.hid (HB1.out.trans (hb.mono HB1.out.size))
      clear hb
      go_wp2_with (first | (refine wpList_plain rfl fun _ hK => wp_store_row 72 (.tmp 7) (.tmp 32) rfl Z (recC sx.2) rfl rfl 72 _ HZ2.out i19 rfl (recC_one _) (hK _ _ ?_); clear hK))
      refine bodyPost_ret (results_tmp_cell rfl _ _ Z 72 (recC sx.2) (0, 0) _ rfl (HZ2.out.set (recC sx.2)) Try.underlying72 rfl i19) rfl ?_
      exact ⟨by rw [HE.out]; rfl, below_setRow HB2.out HZG.out (recC sx.2)⟩
    have e43 : (ph == 3) = false := beq_eq_false_iff_ne.2 h43
    have K43 := Lib.hid h43
    clear h43
    by_cases h44 : ph = 6
    case pos =>
      have e44 : (ph == 6) = true := by rw [h44]; exact beq_self_eq_true _
      have K44 := Lib.hid h44
      clear h44
      have HE : Hid (nextX ph sw gn dl fo ls = sx) := Lib.hid (by have q41 := K41.out; have q43 := K43.out; have q44 := K44.out; rw [HX.out]; unfold nextX switchX; simp_all)
      go_wp2_with (first | (refine wpList_load_any (by rfl) 38 (.tmp 3) rfl w.heap.size rfl 38 cs (0, 0) _ HR1.out Try.underlying38 rfl (by rw [HZC.out]; exact i12) ?_))
      refine (HSWC.out _).mono ?_
      rintro e u2 ⟨rfl, hb⟩
      have HZ2 := Lib.hid (HZ1.out.under hb HZ1.out.lt)
      have HB2 := Lib.hid (HB1.out.trans (hb.mono HB1.out.size))
      clear hb
      go_wp2_with (first | (refine wpList_plain rfl fun _ hK => wp_store_row 72 (.tmp 7) (.tmp 32) rfl Z (recC sx.2) rfl rfl 72 _ HZ2.out i19 rfl (recC_one _) (hK _ _ ?_); clear hK))
      refine bodyPost_ret (results_tmp_cell rfl _ _ Z 72 (recC sx.2) (0, 0) _ rfl (HZ2.out.set (recC sx.2)) Try.underlying72 rfl i19) rfl ?_
      exact ⟨by rw [HE.out]; rfl, below_setRow HB2.out HZG.out (recC sx.2)⟩
    have e44 : (ph == 6) = false := beq_eq_false_iff_ne.2 h44
    have K44 := Lib.hid h44
    clear h44
    by_cases h45 : ph = 5
    case pos =>
      have e45 : (ph == 5) = true := by rw [h45]; exact beq_self_eq_true _
      have K45 := Lib.hid h45
      clear h45
      go_upto_region 11 with (fail)
      have HZ2 : Hid (Rw u1.drew Z ZR0 72) := Lib.hid HZ1.out.drew
      have HB2 : Hid (Below w.heap.size w u1.drew) := Lib.hid (below_drew HB1.out)
      have c11d : u1.drew.cell? ⟨w.heap.size, 11, none⟩ = some (.int .i64 fl) := c11
      have c8d : u1.drew.cell? ⟨w.heap.size, 8, none⟩ = some (.int .i64 dl) := c8
      refine wp_region_held_drew (S := fun Wx => Wx.cell? ⟨w.heap.size, 11, none⟩ = some (.int .i64 fl) ∧ Wx.cell? ⟨w.heap.size, 8, none⟩ = some (.int .i64 dl)) (by kernel_rfl) ⟨c11d, c8d⟩ (fun hHeld => ?_)
      refine wpAnyH_take (i := 0) (oi := { dst := some 33, op := Op.move (Operand.tmp 2), type := 3, pos := "plan.go:29", after := #[], guard := none }) (v := ?_) rfl (by kernel_rfl) (by kernel_rfl) (by kernel_rfl) (fun _ _ _ h => h) (Or.inl ⟨by rfl, ?_⟩) hHeld ?_
      rotate_left
      · rintro Wx ⟨hS0, hS1⟩
        first | (go_simp; done) | (go_simp; with_reducible rfl)
      (try simp only [Act.put, List.setIfInBounds_toArray, List.set_cons_zero, List.set_cons_succ])
      refine wpAnyH_take (i := 1) (oi := { dst := some 34, op := Op.fieldAddr 38 (Operand.tmp 3) 8, type := 0, pos := "plan.go:29", after := #[], guard := none }) (v := ?_) rfl (by kernel_rfl) (by kernel_rfl) (by kernel_rfl) (fun _ _ _ h => h) (Or.inl ⟨by rfl, ?_⟩) hHeld ?_
      rotate_left
      · rintro Wx ⟨hS0, hS1⟩
        first | (go_simp; done) | (go_simp; with_reducible rfl)
      (try simp only [Act.put, List.setIfInBounds_toArray, List.set_cons_zero, List.set_cons_succ])
      refine wpAnyH_take (i := 2) (oi := { dst := some 35, op := Op.load 3 (Operand.tmp 34), type := 3, pos := "plan.go:29", after := #[{ on := 1, ground := Ground.data }], guard := none }) (v := ?_) rfl (by kernel_rfl) (by kernel_rfl) (by kernel_rfl) (fun _ _ _ h => h) (Or.inl ⟨by rfl, ?_⟩) hHeld ?_
      rotate_left
      · rintro Wx ⟨hS0, hS1⟩
        first | (go_simp; done) | (go_simp; with_reducible rfl)
      (try simp only [Act.put, List.setIfInBounds_toArray, List.set_cons_zero, List.set_cons_succ])
      refine wpAnyH_take (i := 4) (oi := { dst := some 37, op := Op.fieldAddr 38 (Operand.tmp 3) 5, type := 0, pos := "plan.go:29", after := #[], guard := none }) (v := ?_) rfl (by kernel_rfl) (by kernel_rfl) (by kernel_rfl) (fun _ _ _ h => h) (Or.inl ⟨by rfl, ?_⟩) hHeld ?_
      rotate_left
      · rintro Wx ⟨hS0, hS1⟩
        first | (go_simp; done) | (go_simp; with_reducible rfl)
      (try simp only [Act.put, List.setIfInBounds_toArray, List.set_cons_zero, List.set_cons_succ])
      refine wpAnyH_take (i := 5) (oi := { dst := some 38, op := Op.load 3 (Operand.tmp 37), type := 3, pos := "plan.go:29", after := #[{ on := 4, ground := Ground.data }], guard := none }) (v := ?_) rfl (by kernel_rfl) (by kernel_rfl) (by kernel_rfl) (fun _ _ _ h => h) (Or.inl ⟨by rfl, ?_⟩) hHeld ?_
      rotate_left
      · rintro Wx ⟨hS0, hS1⟩
        first | (go_simp; done) | (go_simp; with_reducible rfl)
      (try simp only [Act.put, List.setIfInBounds_toArray, List.set_cons_zero, List.set_cons_succ])
      refine wpAnyH_ready (rs := [3]) (by kernel_rfl) (by simp) ?_
      refine AllReadyH.cons (o := { dst := some 36, op := Op.call { callee := Callee.value (Operand.func 49), args := #[Operand.tmp 33, Operand.tmp 35], argTypes := #[3, 3] }, type := 3, pos := "plan.go:29", after := #[{ on := 0, ground := Ground.data }, { on := 2, ground := Ground.data }], guard := none }) rfl (fun K hK => ?_) AllReadyH.nil
      go_simp
      refine (HLS.out _).mono ?_
      rintro e u2 ⟨rfl, hb⟩
      have hcell : ∀ j, u2.cell? ⟨w.heap.size, j, none⟩ = u1.drew.cell? ⟨w.heap.size, j, none⟩ := fun j => hb.cell (p := ⟨w.heap.size, j, none⟩) (Nat.lt_of_lt_of_le HAL.out (Nat.le_refl _))
      have HZ3 := Lib.hid (HZ2.out.under hb HZ2.out.lt)
      have HB3 := Lib.hid (HB2.out.trans (hb.mono HB2.out.size))
      refine hK.out _ _ ?_ (fun hHeld => ?_)
      · exact ⟨(hcell 11).trans c11d, (hcell 8).trans c8d⟩
      clear hK K
      (try simp only [Act.put, List.setIfInBounds_toArray, List.set_cons_zero, List.set_cons_succ])
      refine wpAnyH_take (i := 6) (oi := { dst := some 39, op := Op.binOp BinOp.lss 3 (Operand.tmp 36) (Operand.tmp 38) 3, type := 4, pos := "plan.go:29", after := #[{ on := 3, ground := Ground.data }, { on := 5, ground := Ground.data }], guard := none }) (v := ?_) rfl (by kernel_rfl) (by kernel_rfl) (by kernel_rfl) (fun _ _ _ h => h) (Or.inl ⟨by rfl, ?_⟩) hHeld ?_
      rotate_left
      · rintro Wx ⟨hS0, hS1⟩
        first | (go_simp; done) | (go_simp; with_reducible rfl)
      (try simp only [Act.put, List.setIfInBounds_toArray, List.set_cons_zero, List.set_cons_succ])
      refine wpAnyH_done (by kernel_rfl) ?_ _
      clear hcell hb
      by_cases hd : dl ≤ ls
      case pos =>
        have e90 : decide (dl ≤ ls) = true := decide_eq_true hd
        have e91 : decide (ls < dl) = false := decide_eq_false (by omega)
        have K90 := Lib.hid hd
        have hd2 : ¬ ls < dl := by omega
        have HE : Hid (nextX ph sw gn dl fo ls = (6, rcK 10 0)) := Lib.hid (by have q41 := K41.out; have q43 := K43.out; have q44 := K44.out; have q45 := K45.out; have q90 := K90.out; unfold nextX; simp_all)
        go_wp2_with (first | (refine wpList_plain rfl fun _ hK => wp_store_row 72 (.tmp 7) (.tmp 40) rfl Z (recC (rcK 10 0)) rfl rfl 72 _ HZ3.out i19 rfl (recC_one _) (hK _ _ ?_); clear hK))
        refine bodyPost_ret (results_tmp_cell rfl _ _ Z 72 (recC (rcK 10 0)) (0, 0) _ rfl (HZ3.out.set (recC (rcK 10 0))) Try.underlying72 rfl i19) rfl ?_
        exact ⟨by rw [HE.out]; rfl, below_setRow HB3.out HZG.out (recC (rcK 10 0))⟩
      have e90 : decide (dl ≤ ls) = false := decide_eq_false hd
      have e91 : decide (ls < dl) = true := decide_eq_true (by omega)
      have K90 := Lib.hid hd
      have hd2 : ls < dl := by omega
      have HE : Hid (nextX ph sw gn dl fo ls = (0, rcK 0 0)) := Lib.hid (by have q41 := K41.out; have q43 := K43.out; have q44 := K44.out; have q45 := K45.out; have q90 := K90.out; unfold nextX; simp_all)
      go_wp2_with (first | (refine wpList_plain rfl fun _ hK => wp_store_row 72 (.tmp 7) (.tmp 41) rfl Z (recC (rcK 0 0)) rfl rfl 72 _ HZ3.out i19 rfl (recC_one _) (hK _ _ ?_); clear hK))
      refine bodyPost_ret (results_tmp_cell rfl _ _ Z 72 (recC (rcK 0 0)) (0, 0) _ rfl (HZ3.out.set (recC (rcK 0 0))) Try.underlying72 rfl i19) rfl ?_
      exact ⟨by rw [HE.out]; rfl, below_setRow HB3.out HZG.out (recC (rcK 0 0))⟩
    have e45 : (ph == 5) = false := beq_eq_false_iff_ne.2 h45
    have K45 := Lib.hid h45
    clear h45
    by_cases h46 : ph = 7
    case pos =>
      have e46 : (ph == 7) = true := by rw [h46]; exact beq_self_eq_true _
      have K46 := Lib.hid h46
      clear h46
      have HE : Hid (nextX ph sw gn dl fo ls = (6, rcK 10 0)) := Lib.hid (by have q41 := K41.out; have q43 := K43.out; have q44 := K44.out; have q45 := K45.out; have q46 := K46.out; unfold nextX; simp_all)
      go_wp2_with (first | (refine wpList_plain rfl fun _ hK => wp_store_row 72 (.tmp 7) (.tmp 40) rfl Z (recC (rcK 10 0)) rfl rfl 72 _ HZ1.out i19 rfl (recC_one _) (hK _ _ ?_); clear hK))
      refine bodyPost_ret (results_tmp_cell rfl _ _ Z 72 (recC (rcK 10 0)) (0, 0) _ rfl (HZ1.out.set (recC (rcK 10 0))) Try.underlying72 rfl i19) rfl ?_
      exact ⟨by rw [HE.out]; rfl, below_setRow HB1.out HZG.out (recC (rcK 10 0))⟩
    have e46 : (ph == 7) = false := beq_eq_false_iff_ne.2 h46
    have K46 := Lib.hid h46
    clear h46
    have HE : Hid (nextX ph sw gn dl fo ls = (0, rcK 0 0)) := Lib.hid (by have q41 := K41.out; have q43 := K43.out; have q44 := K44.out; have q45 := K45.out; have q46 := K46.out; unfold nextX; simp_all)
    go_wp2_with (first | (refine wpList_plain rfl fun _ hK => wp_store_row 72 (.tmp 7) (.tmp 41) rfl Z (recC (rcK 0 0)) rfl rfl 72 _ HZ1.out i19 rfl (recC_one _) (hK _ _ ?_); clear hK))
    refine bodyPost_ret (results_tmp_cell rfl _ _ Z 72 (recC (rcK 0 0)) (0, 0) _ rfl (HZ1.out.set (recC (rcK 0 0))) Try.underlying72 rfl i19) rfl ?_
    exact ⟨by rw [HE.out]; rfl, below_setRow HB1.out HZG.out (recC (rcK 0 0))⟩
  )
theorem nextis (s : St) (v : Vw) (now : Int) (W : World) (hr : rightS s = true) (hn : Fits now) : Calls Try.prog 34 #[stV s, vwV v, .int .i64 now] W fun e w' => e = .returned (.tuple #[.int .i64 (nextS s v now).1, recV (nextS s v now).2]) ∧ Below W.heap.size W w' := by
  have hi := right_in hr
  have hf : 0 ≤ s.fl ∧ s.fl ≤ 1073741824 := by
    unfold rightS at hr
    split at hr
    · have h := of_decide_eq_true hr
      exact ⟨h.1.2.2.2.2.2.2.2.2.1, h.1.2.2.2.2.2.2.2.2.2⟩
    · split at hr
      · have h := of_decide_eq_true hr
        exact ⟨h.1.2.2.2.2.2.2.2.2.1, h.1.2.2.2.2.2.2.2.2.2⟩
      · cases hr
  obtain ⟨ph, ac, r0, r1, w0, w1, p0, p1, dl, gn, sw, fl⟩ := s
  obtain ⟨a0, a1, b0, b1⟩ := v
  have hsw : sw = 0 ∨ sw = 1 ∨ sw = 2 := by have h1 : 0 ≤ sw := hi.2.2.2.2.2.1; have h2 : sw ≤ 2 := hi.2.2.2.2.2.2; omega
  exact pnext_c now ph ac r0 r1 w0 w1 dl gn sw fl a0 a1 b0 b1 p0 p1 _ _ W rfl rfl hi.1 hsw ⟨hi.2.2.2.1, hi.2.2.2.2.1⟩ hf hn
theorem fullis (s : St) (v : Vw) (slot : Int) (W : World) : Calls Try.prog 47 #[stV s, vwV v, .int .i64 slot] W fun e w' => e = .returned (.bool (fullS s v slot)) ∧ Below W.heap.size W w' := by
  obtain ⟨ph, ac, r0, r1, w0, w1, p0, p1, dl, gn, sw, fl⟩ := s
  obtain ⟨a0, a1, b0, b1⟩ := v
  exact pfull_c slot ph ac r0 r1 w0 w1 dl gn sw fl a0 a1 b0 b1 p0 p1 _ _ W rfl rfl
end Go.Proofs.Ytchaeidmjoelnaa
