/-
  Records: when they are equal; operations that came in.
  The document's own Record; the state that First makes.
  An operation that may be done has a record that can come: plain facts, no program.
-/
import Derived.Test.YtchaeidmjoelnaaGreatFoC
import Derived.Test.YtchaeidmjoelnaaGreatMayS
import Derived.Test.YtchaeidmjoelnaaGreatFirst
import Derived.Test.YtchaeidmjoelnaaGreatStStep
import Derived.Test.YtchaeidmjoelnaaGreatLaw
namespace Go.Proofs.YtchaeidmjoelnaaGreat
open Go.RowKit

structure FitsO (o : Oc) : Prop where
  kind : Fits o.kind
  rev : Fits o.rev
  cnt : Fits o.cnt
  delay : Fits o.delay
def recL (r : Rc) : List Lit := [.int .i64 r.kind, .int .i64 r.rev, .int .i64 r.cnt, .int .i64 r.delay, .int .i64 r.gen, .int .i64 r.tick, .bool r.pass] ++ stL r.st
theorem kl35 (d : Nat) {r : Rc} (h : FitsR r) : Tryz.prog.keyLits (d + 4) 85 (recC r).toList = some (recL r) := by
  have h3 := fun (a : Int) (ha : Fits a) => kl3 (d + 2) ha
  have h4 := fun (a : Bool) => kl4 (d + 2) a
  have h5 := kl25 d h.st
  simp only [stC] at h5
  unfold Program.keyLits
  simp only [Tryz.underlying85]
  simp [recC, c27, c3, c4, c25, h3 _ h.kind, h3 _ h.rev, h3 _ h.cnt, h3 _ h.delay, h3 _ h.gen, h3 _ h.tick, h4, h5]
  rfl
theorem kt35 : Tryz.prog.keyTypeAt 10 85 = true := by kernel_rfl
/-- A record is equal to itself. -/
theorem eq35 {a : Rc} (ha : FitsR a) (w : World) : (Op.equalIn 10000 85 (.agg (recC a)) (.agg (recC a))).run Tryz.prog w = .ok true w := by
  obtain ⟨r, hr, hi⟩ := run_equalIn_deep 9990 10 85 kt35 w 4 4 (.agg (recC a)) (.agg (recC a)) _ _ (by kernel_rfl) (by kernel_rfl) (kl35 0 ha) (kl35 0 ha)
  rw [hr, hi.2 rfl]
theorem fits_zero : FitsS zeroS := by constructor <;> (unfold Fits zeroS; decide)
theorem fits_recO {o : Oc} (h : FitsO o) : FitsR (recO o) := by
  have z0 : Fits 0 := by unfold Fits; decide
  have z1 : Fits 1 := by unfold Fits; decide
  unfold recO
  split
  · exact ⟨z1, h.rev, h.cnt, h.delay, z0, z0, fits_zero⟩
  · split
    · exact ⟨h.kind, z0, z0, z0, z0, z0, fits_zero⟩
    · exact ⟨h.kind, z0, z0, z0, z0, z0, fits_zero⟩
end Go.Proofs.YtchaeidmjoelnaaGreat
namespace Go.Proofs.YtchaeidmjoelnaaGreat
open Go.RowKit

theorem recC_one (r : Rc) : (recC r).all (·.oneCell') = true := by simp [recC, Value.oneCell']
set_option maxRecDepth 100000 in
set_option maxHeartbeats 8000000 in
theorem mrecord_c (kd rv cn dy : Int) (ps : Bool) (os : Array Value) (w : World) (hos : os = opC ⟨kd, rv, cn, dy, ps⟩) : Calls Tryz.prog 32 #[.agg os] w fun e w' => e = .returned (recV (recO ⟨kd, rv, cn, dy, ps⟩)) ∧ Below w.heap.size w w' := by
  have HO := Lib.hid hos
  clear hos
  go_enter Tryz.func32, Tryz.ntmps32
  go_upto_region 1 with (fail)
  obtain ⟨B, hBe⟩ : ∃ B, B = w.heap.size + 1 := ⟨_, rfl⟩
  rw [← hBe]
  refine name_w (fun W => Rw W w.heap.size os 39 ∧ Rw W B (recC ⟨0, 0, 0, 0, 0, 0, false, zeroS⟩) 85 ∧ Below w.heap.size w W) ⟨(Rw.new _ _ _).alloc _, ?_, ((Below.refl _ _).alloc (Nat.le_refl _) _).alloc (by simp) _⟩ ?_
  · have h1 := Rw.new (w.alloc (.cells os 39)) (recC ⟨0, 0, 0, 0, 0, 0, false, zeroS⟩) 85
    rw [size_alloc, ← hBe] at h1
    exact h1
  rintro W ⟨hP, hZ, hb⟩
  have HB := Lib.hid hb
  have HZB := Lib.hid hZ
  have HBB : Hid (w.heap.size ≤ B) := Lib.hid (by omega)
  have d0 : W.cell? ⟨w.heap.size, 0, none⟩ = some (.int .i64 kd) := by rw [hP.cell 0, HO.out]; rfl
  have d1 : W.cell? ⟨w.heap.size, 1, none⟩ = some (.int .i64 rv) := by rw [hP.cell 1, HO.out]; rfl
  have d2 : W.cell? ⟨w.heap.size, 2, none⟩ = some (.int .i64 cn) := by rw [hP.cell 2, HO.out]; rfl
  have d3 : W.cell? ⟨w.heap.size, 3, none⟩ = some (.int .i64 dy) := by rw [hP.cell 3, HO.out]; rfl
  have d4 : W.cell? ⟨w.heap.size, 4, none⟩ = some (.bool ps) := by rw [hP.cell 4, HO.out]; rfl
  clear hP hZ hb hBe
  by_cases h1 : kd = 1
  case pos =>
    subst h1
    have HE : Hid (recO ⟨1, rv, cn, dy, ps⟩ = ⟨1, rv, cn, dy, 0, 0, false, zeroS⟩) := Lib.hid rfl
    go_wp2_with (refine wpList_plain rfl fun _ hK => wp_store_row 85 (.tmp 2) (.tmp 12) rfl B (recC ⟨1, rv, cn, dy, 0, 0, false, zeroS⟩) rfl rfl 85 _ HZB.out i19 rfl (recC_one _) (hK _ _ ?_); clear hK)
    refine bodyPost_ret (results_cell_row rfl _ _ B 85 (recC ⟨1, rv, cn, dy, 0, 0, false, zeroS⟩) (0, 0) _ rfl (HZB.out.set (recC ⟨1, rv, cn, dy, 0, 0, false, zeroS⟩)) Tryz.underlying85 rfl i19) rfl ?_
    exact ⟨by rw [HE.out]; rfl, below_setRow HB.out HBB.out (recC ⟨1, rv, cn, dy, 0, 0, false, zeroS⟩)⟩
  have e1 : (kd == 1) = false := beq_eq_false_iff_ne.2 h1
  by_cases h2 : kd = 4
  case pos =>
    subst h2
    have HE : Hid (recO ⟨4, rv, cn, dy, ps⟩ = ⟨4, 0, 0, 0, 0, 0, ps, zeroS⟩) := Lib.hid rfl
    clear h1
    go_wp2_with (refine wpList_plain rfl fun _ hK => wp_store_row 85 (.tmp 2) (.tmp 25) rfl B (recC ⟨4, 0, 0, 0, 0, 0, ps, zeroS⟩) rfl rfl 85 _ HZB.out i19 rfl (recC_one _) (hK _ _ ?_); clear hK)
    refine bodyPost_ret (results_cell_row rfl _ _ B 85 (recC ⟨4, 0, 0, 0, 0, 0, ps, zeroS⟩) (0, 0) _ rfl (HZB.out.set (recC ⟨4, 0, 0, 0, 0, 0, ps, zeroS⟩)) Tryz.underlying85 rfl i19) rfl ?_
    exact ⟨by rw [HE.out]; rfl, below_setRow HB.out HBB.out (recC ⟨4, 0, 0, 0, 0, 0, ps, zeroS⟩)⟩
  have e2 : (kd == 4) = false := beq_eq_false_iff_ne.2 h2
  by_cases h3 : kd = 9
  case pos =>
    subst h3
    have HE : Hid (recO ⟨9, rv, cn, dy, ps⟩ = ⟨9, 0, 0, 0, 0, 0, ps, zeroS⟩) := Lib.hid rfl
    clear h1 h2
    go_wp2_with (refine wpList_plain rfl fun _ hK => wp_store_row 85 (.tmp 2) (.tmp 25) rfl B (recC ⟨9, 0, 0, 0, 0, 0, ps, zeroS⟩) rfl rfl 85 _ HZB.out i19 rfl (recC_one _) (hK _ _ ?_); clear hK)
    refine bodyPost_ret (results_cell_row rfl _ _ B 85 (recC ⟨9, 0, 0, 0, 0, 0, ps, zeroS⟩) (0, 0) _ rfl (HZB.out.set (recC ⟨9, 0, 0, 0, 0, 0, ps, zeroS⟩)) Tryz.underlying85 rfl i19) rfl ?_
    exact ⟨by rw [HE.out]; rfl, below_setRow HB.out HBB.out (recC ⟨9, 0, 0, 0, 0, 0, ps, zeroS⟩)⟩
  have e3 : (kd == 9) = false := beq_eq_false_iff_ne.2 h3
  have HE : Hid (recO ⟨kd, rv, cn, dy, ps⟩ = ⟨kd, 0, 0, 0, 0, 0, false, zeroS⟩) := Lib.hid (by unfold recO; rw [if_neg h1, if_neg (by simp [h2, h3])])
  clear h1 h2 h3
  go_wp2_with (refine wpList_plain rfl fun _ hK => wp_store_row 85 (.tmp 2) (.tmp 28) rfl B (recC ⟨kd, 0, 0, 0, 0, 0, false, zeroS⟩) rfl rfl 85 _ HZB.out i19 rfl (recC_one _) (hK _ _ ?_); clear hK)
  refine bodyPost_ret (results_cell_row rfl _ _ B 85 (recC ⟨kd, 0, 0, 0, 0, 0, false, zeroS⟩) (0, 0) _ rfl (HZB.out.set (recC ⟨kd, 0, 0, 0, 0, 0, false, zeroS⟩)) Tryz.underlying85 rfl i19) rfl ?_
  exact ⟨by rw [HE.out]; rfl, below_setRow HB.out HBB.out (recC ⟨kd, 0, 0, 0, 0, 0, false, zeroS⟩)⟩
theorem mrecord_any (o : Oc) (w : World) : Calls Tryz.prog 32 #[opV o] w fun e w' => e = .returned (recV (recO o)) ∧ Below w.heap.size w w' := by
  obtain ⟨kd, rv, cn, dy, ps⟩ := o
  exact mrecord_c kd rv cn dy ps _ w rfl
/-- A block is written at one place. -/
theorem Rw.setc {W : World} {b : Nat} {cs : Array Value} {t : TypeId} (h : Rw W b cs t) (i : Nat) (u : Value) : Rw (W.setCell ⟨b, i, none⟩ u) b (cs.setIfInBounds i u) t := by
  unfold Rw at h ⊢
  simp [World.setCell, Array.getElem?_modify, h]
set_option maxRecDepth 100000 in
set_option maxHeartbeats 8000000 in
theorem mfirst_any (rev n : Int) (w : World) : Calls Tryz.prog 7 #[.int .i64 rev, .int .i64 n] w fun e w' => e = .returned (stV (firstS rev n)) ∧ Below w.heap.size w w' := by
  go_enter Tryz.func7, Tryz.ntmps7
  go_upto_region 2 with (fail)
  obtain ⟨A, hA⟩ : ∃ A, A = w.heap.size := ⟨_, rfl⟩
  obtain ⟨B, hBe⟩ : ∃ B, B = w.heap.size + 1 := ⟨_, rfl⟩
  rw [← hBe, ← hA]
  refine name_w (fun W => Rw W A (stC zeroS) 33 ∧ Rw W B (stC zeroS) 33 ∧ Below w.heap.size w W) ?_ ?_
  · have h1 := Rw.new (w.alloc (.cells (stC zeroS) 33)) (stC zeroS) 33
    rw [size_alloc, ← hBe] at h1
    exact ⟨by rw [hA]; exact (Rw.new _ _ _).alloc _, h1, ((Below.refl _ _).alloc (Nat.le_refl _) _).alloc (by simp) _⟩
  rintro W ⟨h1, h2, h3⟩
  have c2 : W.cell? ⟨B, 2, none⟩ = some (.int .i64 0) := by rw [h2.cell 2]; rfl
  have c4 : W.cell? ⟨B, 4, none⟩ = some (.int .i64 0) := by rw [h2.cell 4]; rfl
  have c6 : W.cell? ⟨B, 6, none⟩ = some (.bool false) := by rw [h2.cell 6]; rfl
  have f2 := h2.fr 2
  have f4 := h2.fr 4
  have f6 := h2.fr 6
  have hne : A ≠ B := by omega
  have HX : Hid (Rw (((W.setCell ⟨B, 2, none⟩ (.int .i64 rev)).setCell ⟨B, 4, none⟩ (.int .i64 n)).setCell ⟨B, 6, none⟩ (.bool true)) A (stC zeroS) 33 ∧ Rw (((W.setCell ⟨B, 2, none⟩ (.int .i64 rev)).setCell ⟨B, 4, none⟩ (.int .i64 n)).setCell ⟨B, 6, none⟩ (.bool true)) B (stC (firstS rev n)) 33 ∧ Below w.heap.size w (((W.setCell ⟨B, 2, none⟩ (.int .i64 rev)).setCell ⟨B, 4, none⟩ (.int .i64 n)).setCell ⟨B, 6, none⟩ (.bool true))) := Lib.hid ⟨((Below.heap_setCell _ ⟨B, 6, none⟩ _ A hne).trans ((Below.heap_setCell _ ⟨B, 4, none⟩ _ A hne).trans (Below.heap_setCell _ ⟨B, 2, none⟩ _ A hne))).trans h1, ((h2.setc 2 _).setc 4 _).setc 6 _, below_setCell (below_setCell (below_setCell h3 (by omega) _) (by omega) _) (by omega) _⟩
  have HL : Hid (w.heap.size ≤ A) := Lib.hid (by omega)
  clear h1 h2 h3 hA hBe hne
  go_upto_region 5 with (fail)
  refine name_w (fun X => Rw X A (stC zeroS) 33 ∧ Rw X B (stC (firstS rev n)) 33 ∧ Below w.heap.size w X) HX.out ?_
  clear HX c2 c4 c6 f2 f4 f6
  rintro X ⟨h1, h2, h3⟩
  have H1 := Lib.hid h1
  have H2 := Lib.hid h2
  have H3 := Lib.hid h3
  clear h1 h2 h3
  obtain ⟨cs, hcs⟩ : ∃ c, c = stC (firstS rev n) := ⟨_, rfl⟩
  have HC := Lib.hid hcs
  have HZ : Hid (cs.size = 12) := Lib.hid (by rw [hcs]; rfl)
  have HO : Hid (cs.all (·.oneCell') = true) := Lib.hid (by rw [hcs]; exact stC_one _)
  rw [← hcs] at H2
  clear hcs
  go_wp2_with (first | (refine wpList_load_row rfl 33 (.tmp 5) rfl B rfl 33 cs (0, 0) _ H2.out Tryz.underlying33 rfl (by rw [HZ.out]; exact i12) ?_) | (refine wpList_plain rfl fun _ hK => wp_store_row 33 (.tmp 4) (.tmp 15) rfl A cs rfl rfl 33 _ H1.out (by rw [HZ.out]; exact i12) (by rw [HZ.out]; rfl) HO.out (hK _ _ ?_); clear hK))
  refine bodyPost_ret (results_cell_row rfl _ _ A 33 cs (0, 0) _ rfl (H1.out.set cs) Tryz.underlying33 rfl (by rw [HZ.out]; exact i12)) rfl ?_
  exact ⟨by rw [HC.out]; rfl, below_setRow H3.out HL.out cs⟩
end Go.Proofs.YtchaeidmjoelnaaGreat
namespace Go.Proofs.YtchaeidmjoelnaaGreat

theorem may_step {s : St} {o : Oc} {now : Int} (hr : rightS s = true) (h : chkS s o now = 0) : (stepS s (recO o)).2 = true := by
  obtain ⟨kd, rv, cn, dy, ps⟩ := o
  have hi := right_in hr
  unfold stepS
  rw [if_neg (by rw [hr]; decide)]
  unfold chkS chkX at h
  simp only at h
  by_cases h2 : kd = 2
  · subst h2
    rw [if_pos rfl] at h
    have e : recO ⟨2, rv, cn, dy, ps⟩ = ⟨2, 0, 0, 0, 0, 0, false, zeroS⟩ := rfl
    rw [e]
    rw [if_neg (by decide), if_pos rfl]
    unfold step2
    have hx : ¬ (s.ph = 0 ∨ 5 < s.ph ∨ s.ph = 3 ∧ 0 < s.sw) := fun hh => by rw [if_pos hh] at h; cases h
    split
    · rfl
    · show decide (s.ph = 4 ∨ s.ph = 5) = true
      exact decide_eq_true (by omega)
  rw [if_neg h2] at h
  by_cases hk : kd ≠ 1 ∧ kd ≠ 4 ∧ kd ≠ 9
  · rw [if_pos hk] at h; cases h
  rw [if_neg hk] at h
  by_cases hv : rv < 1 ∨ 1073741824 < rv
  · rw [if_pos hv] at h; cases h
  rw [if_neg hv] at h
  by_cases h4 : kd = 4
  · subst h4
    rw [if_pos rfl] at h
    have e : recO ⟨4, rv, cn, dy, ps⟩ = ⟨4, 0, 0, 0, 0, 0, ps, zeroS⟩ := rfl
    rw [e]
    rw [if_neg (by simp), if_neg (by simp), if_neg (by simp), if_pos rfl]
    have hx : s.ph = 2 := Decidable.byContradiction fun hh => by rw [if_pos hh] at h; cases h
    unfold step4
    split
    · rfl
    · show decide (s.ph = 2) = true
      exact decide_eq_true hx
  rw [if_neg h4] at h
  by_cases h9 : kd = 9
  · subst h9
    rw [if_pos rfl] at h
    have e : recO ⟨9, rv, cn, dy, ps⟩ = ⟨9, 0, 0, 0, 0, 0, ps, zeroS⟩ := rfl
    rw [e]
    rw [if_neg (by simp), if_neg (by simp), if_neg (by simp), if_neg (by simp), if_neg (by simp), if_neg (by simp), if_neg (by simp), if_neg (by simp), if_pos rfl]
    have hx : s.ph = 4 := Decidable.byContradiction fun hh => by rw [if_pos hh] at h; cases h
    show decide (s.ph = 4) = true
    exact decide_eq_true hx
  rw [if_neg h9] at h
  obtain rfl : kd = 1 := by omega
  by_cases hc : cn < 1 ∨ 32 < cn ∨ dy < 0 ∨ 65536 < dy
  · rw [if_pos hc] at h; cases h
  rw [if_neg hc] at h
  by_cases hg : 1073741823 < now ∨ 1048575 ≤ s.gn
  · rw [if_pos hg] at h; cases h
  rw [if_neg hg] at h
  by_cases hp : 2 < s.ph
  · rw [if_pos hp] at h; cases h
  rw [if_neg hp] at h
  by_cases ha : rv = raS s
  · rw [if_pos ha] at h; cases h
  have e : recO ⟨1, rv, cn, dy, ps⟩ = ⟨1, rv, cn, dy, 0, 0, false, zeroS⟩ := rfl
  rw [e, if_pos rfl]
  unfold step1
  simp only
  rw [if_neg (by omega), if_neg (by omega)]
end Go.Proofs.YtchaeidmjoelnaaGreat
