/-
  The document's own Record; the state that First makes.
  Package may's calls as a bundle.
  Package may's own functions: whether an operation may be done, and its record.
-/
import Derived.Test.YtchaeidmjoelnaaFirst
import Derived.Test.YtchaeidmjoelnaaMayE
import Derived.Test.YtchaeidmjoelnaaFoRight
import Derived.Test.YtchaeidmjoelnaaStStepK
import Derived.Deep.RegionHeld3
namespace Go.Proofs.Ytchaeidmjoelnaa
open Go.RowKit

theorem recC_one (r : Rc) : (recC r).all (·.oneCell') = true := by simp [recC, Value.oneCell']
/-- A block is written at one place. -/
theorem Rw.setc {W : World} {b : Nat} {cs : Array Value} {t : TypeId} (h : Rw W b cs t) (i : Nat) (u : Value) : Rw (W.setCell ⟨b, i, none⟩ u) b (cs.setIfInBounds i u) t := by
  unfold Rw at h ⊢
  simp [World.setCell, Array.getElem?_modify, h]
end Go.Proofs.Ytchaeidmjoelnaa
namespace Go.Proofs.Ytchaeidmjoelnaa
open Go.RowKit

/-- The package's calls are what the document says. -/
structure PkgM : Prop where
  check : ∀ (s : St) (o : Oc) (now : Int) (W : World), rightS s = true → FitsS s → FitsO o → Fits now → Calls Try.prog 29 #[stV s, opV o, .int .i64 now] W fun e w' => e = .returned (.int .i64 (chkS s o now)) ∧ Below W.heap.size W w'
  record : ∀ (o : Oc) (W : World), FitsO o → Calls Try.prog 31 #[opV o] W fun e w' => e = .returned (recV (recO o)) ∧ Below W.heap.size W w'
end Go.Proofs.Ytchaeidmjoelnaa
namespace Go.Proofs.Ytchaeidmjoelnaa
open Go.RowKit

theorem pwithin_any (n lo hi : Int) (w : World) : Calls Try.prog 58 #[.int .i64 n, .int .i64 lo, .int .i64 hi] w fun e w' => e = .returned (.bool (inR n lo hi)) ∧ w = w' := by
  by_cases h : lo ≤ n
  · have e1 : decide (lo ≤ n) = true := by simpa using h
    have HE : Hid (inR n lo hi = decide (n ≤ hi)) := Lib.hid (by unfold inR; rw [e1]; rfl)
    clear h
    go_enter Try.func58, Try.ntmps58
    go_wp2
    go_ret
    exact ⟨by rw [HE.out]; rfl, rfl⟩
  · have e1 : decide (lo ≤ n) = false := by simpa using h
    have HE : Hid (inR n lo hi = false) := Lib.hid (by unfold inR; rw [e1]; rfl)
    clear h
    go_enter Try.func58, Try.ntmps58
    go_wp2
    go_ret
    exact ⟨by rw [HE.out]; rfl, rfl⟩
theorem pisrev_any (n : Int) (w : World) : Calls Try.prog 57 #[.int .i64 n] w fun e w' => e = .returned (.bool (inR n 1 1073741824)) ∧ w = w' := by
  go_enter Try.func57, Try.ntmps57
  go_wp2_with (first | (go_at_call 58; refine (pwithin_any _ _ _ _).mono ?_; rintro e w' ⟨rfl, rfl⟩))
  go_ret
  exact ⟨rfl, rfl⟩
def revX (r0 r1 sl : Int) : Int := if sl = 0 then r0 else r1
theorem i5p : (Try.prog.info? 31).map (·.size) = some 5 := by kernel_rfl
set_option maxRecDepth 100000 in
set_option maxHeartbeats 8000000 in
theorem prevof_c (sl : Int) (ph ac r0 r1 w0 w1 dl gn sw fl : Int) (p0 p1 : Bool) (cs : Array Value) (w : World) (hcs : cs = stC ⟨ph, ac, r0, r1, w0, w1, p0, p1, dl, gn, sw, fl⟩) (h : sl = 0 ∨ sl = 1) : Calls Try.prog 59 #[.agg cs, .int .i64 sl] w fun e w' => e = .returned (.int .i64 (revX r0 r1 sl)) ∧ Below w.heap.size w w' := by
  rcases h with rfl | rfl
  · have HC := Lib.hid hcs
    clear hcs
    go_enter Try.func59, Try.ntmps59
    go_upto_region 1 with (fail)
    refine name_w (fun W => Rw W w.heap.size cs 38 ∧ Below w.heap.size w W) ⟨Rw.new _ _ _, (Below.refl _ _).alloc (Nat.le_refl _) _⟩ ?_
    rintro W ⟨hR, hb⟩
    have HB := Lib.hid hb
    have c2 : W.cell? ⟨w.heap.size, 2, none⟩ = some (.int .i64 r0) := by rw [hR.cell 2, HC.out]; rfl
    have c3 : W.cell? ⟨w.heap.size, 3, none⟩ = some (.int .i64 r1) := by rw [hR.cell 3, HC.out]; rfl
    clear hR hb
    go_wp2
    go_ret
    exact ⟨rfl, HB.out⟩
  · have HC := Lib.hid hcs
    clear hcs
    go_enter Try.func59, Try.ntmps59
    go_upto_region 1 with (fail)
    refine name_w (fun W => Rw W w.heap.size cs 38 ∧ Below w.heap.size w W) ⟨Rw.new _ _ _, (Below.refl _ _).alloc (Nat.le_refl _) _⟩ ?_
    rintro W ⟨hR, hb⟩
    have HB := Lib.hid hb
    have c2 : W.cell? ⟨w.heap.size, 2, none⟩ = some (.int .i64 r0) := by rw [hR.cell 2, HC.out]; rfl
    have c3 : W.cell? ⟨w.heap.size, 3, none⟩ = some (.int .i64 r1) := by rw [hR.cell 3, HC.out]; rfl
    clear hR hb
    go_wp2
    go_ret
    exact ⟨rfl, HB.out⟩
def abX (ph sw : Int) : Int := if ph = 1 ∨ ph = 2 ∨ ph = 4 ∨ ph = 5 ∨ (ph = 3 ∧ sw = 0) then 0 else 7
set_option maxRecDepth 100000 in
set_option maxHeartbeats 8000000 in
theorem pabort_c (ph ac r0 r1 w0 w1 dl gn sw fl : Int) (p0 p1 : Bool) (cs : Array Value) (w : World) (hcs : cs = stC ⟨ph, ac, r0, r1, w0, w1, p0, p1, dl, gn, sw, fl⟩) : Calls Try.prog 44 #[.agg cs] w fun e w' => e = .returned (.int .i64 (abX ph sw)) ∧ Below w.heap.size w w' := by
  have HC := Lib.hid hcs
  clear hcs
  go_enter Try.func44, Try.ntmps44
  go_upto_region 1 with (fail)
  refine name_w (fun W => Rw W w.heap.size cs 38 ∧ Below w.heap.size w W) ⟨Rw.new _ _ _, (Below.refl _ _).alloc (Nat.le_refl _) _⟩ ?_
  rintro W ⟨hR, hb⟩
  have HB := Lib.hid hb
  have c0 : W.cell? ⟨w.heap.size, 0, none⟩ = some (.int .i64 ph) := by rw [hR.cell 0, HC.out]; rfl
  have c10 : W.cell? ⟨w.heap.size, 10, none⟩ = some (.int .i64 sw) := by rw [hR.cell 10, HC.out]; rfl
  clear hR hb
  by_cases h1 : ph = 1
  case pos =>
    have e1 : (ph == 1) = true := by rw [h1]; exact beq_self_eq_true _
    have g1 : (ph != 1) = false := by rw [bne, e1]; rfl
    have K1 := Lib.hid h1
    clear h1
    have HE : Hid (abX ph sw = 0) := Lib.hid (by have k1 := K1.out; unfold abX; (repeat' split) <;> first | rfl | (exfalso; omega))
    go_wp2
    go_ret
    exact ⟨by rw [HE.out]; rfl, HB.out⟩
  have e1 : (ph == 1) = false := beq_eq_false_iff_ne.2 h1
  have g1 : (ph != 1) = true := by rw [bne, e1]; rfl
  have K1 := Lib.hid h1
  clear h1
  by_cases h2 : ph = 2
  case pos =>
    have e2 : (ph == 2) = true := by rw [h2]; exact beq_self_eq_true _
    have g2 : (ph != 2) = false := by rw [bne, e2]; rfl
    have K2 := Lib.hid h2
    clear h2
    have HE : Hid (abX ph sw = 0) := Lib.hid (by have k1 := K1.out; have k2 := K2.out; unfold abX; (repeat' split) <;> first | rfl | (exfalso; omega))
    go_wp2
    go_ret
    exact ⟨by rw [HE.out]; rfl, HB.out⟩
  have e2 : (ph == 2) = false := beq_eq_false_iff_ne.2 h2
  have g2 : (ph != 2) = true := by rw [bne, e2]; rfl
  have K2 := Lib.hid h2
  clear h2
  by_cases h3 : ph = 4
  case pos =>
    have e3 : (ph == 4) = true := by rw [h3]; exact beq_self_eq_true _
    have g3 : (ph != 4) = false := by rw [bne, e3]; rfl
    have K3 := Lib.hid h3
    clear h3
    have HE : Hid (abX ph sw = 0) := Lib.hid (by have k1 := K1.out; have k2 := K2.out; have k3 := K3.out; unfold abX; (repeat' split) <;> first | rfl | (exfalso; omega))
    go_wp2
    go_ret
    exact ⟨by rw [HE.out]; rfl, HB.out⟩
  have e3 : (ph == 4) = false := beq_eq_false_iff_ne.2 h3
  have g3 : (ph != 4) = true := by rw [bne, e3]; rfl
  have K3 := Lib.hid h3
  clear h3
  by_cases h4 : ph = 5
  case pos =>
    have e4 : (ph == 5) = true := by rw [h4]; exact beq_self_eq_true _
    have g4 : (ph != 5) = false := by rw [bne, e4]; rfl
    have K4 := Lib.hid h4
    clear h4
    have HE : Hid (abX ph sw = 0) := Lib.hid (by have k1 := K1.out; have k2 := K2.out; have k3 := K3.out; have k4 := K4.out; unfold abX; (repeat' split) <;> first | rfl | (exfalso; omega))
    go_wp2
    go_ret
    exact ⟨by rw [HE.out]; rfl, HB.out⟩
  have e4 : (ph == 5) = false := beq_eq_false_iff_ne.2 h4
  have g4 : (ph != 5) = true := by rw [bne, e4]; rfl
  have K4 := Lib.hid h4
  clear h4
  by_cases h5 : ph = 3
  case pos =>
    have e5 : (ph == 3) = true := by rw [h5]; exact beq_self_eq_true _
    have g5 : (ph != 3) = false := by rw [bne, e5]; rfl
    have K5 := Lib.hid h5
    clear h5
    by_cases h6 : sw = 0
    case pos =>
      have e6 : (sw == 0) = true := by rw [h6]; exact beq_self_eq_true _
      have g6 : (sw != 0) = false := by rw [bne, e6]; rfl
      have K6 := Lib.hid h6
      clear h6
      have HE : Hid (abX ph sw = 0) := Lib.hid (by have k1 := K1.out; have k2 := K2.out; have k3 := K3.out; have k4 := K4.out; have k5 := K5.out; have k6 := K6.out; unfold abX; (repeat' split) <;> first | rfl | (exfalso; omega))
      go_wp2
      go_ret
      exact ⟨by rw [HE.out]; rfl, HB.out⟩
    have e6 : (sw == 0) = false := beq_eq_false_iff_ne.2 h6
    have g6 : (sw != 0) = true := by rw [bne, e6]; rfl
    have K6 := Lib.hid h6
    clear h6
    have HE : Hid (abX ph sw = 7) := Lib.hid (by have k1 := K1.out; have k2 := K2.out; have k3 := K3.out; have k4 := K4.out; have k5 := K5.out; have k6 := K6.out; unfold abX; (repeat' split) <;> first | rfl | (exfalso; omega))
    go_wp2
    go_ret
    exact ⟨by rw [HE.out]; rfl, HB.out⟩
  have e5 : (ph == 3) = false := beq_eq_false_iff_ne.2 h5
  have g5 : (ph != 3) = true := by rw [bne, e5]; rfl
  have K5 := Lib.hid h5
  clear h5
  have HE : Hid (abX ph sw = 7) := Lib.hid (by have k1 := K1.out; have k2 := K2.out; have k3 := K3.out; have k4 := K4.out; have k5 := K5.out; unfold abX; (repeat' split) <;> first | rfl | (exfalso; omega))
  go_wp2
  go_ret
  exact ⟨by rw [HE.out]; rfl, HB.out⟩
def gateX (p rr ph rv : Int) : Int := if rv < 1 ∨ 1073741824 < rv then 1 else if ph ≠ p then 7 else if rv ≠ rr then 13 else 0
theorem inR_t {n lo hi : Int} (h : inR n lo hi = true) : lo ≤ n ∧ n ≤ hi := by simpa [inR] using h
theorem inR_f {n lo hi : Int} (h : inR n lo hi = false) : n < lo ∨ hi < n := by
  simp only [inR, Bool.and_eq_false_iff, decide_eq_false_iff_not] at h
  omega
set_option maxRecDepth 100000 in
set_option maxHeartbeats 8000000 in
theorem pgate_c (p sl : Int) (ph ac r0 r1 w0 w1 dl gn sw fl : Int) (p0 p1 : Bool) (cs : Array Value) (kd rv cn dy : Int) (ps : Bool) (os : Array Value) (w : World) (hcs : cs = stC ⟨ph, ac, r0, r1, w0, w1, p0, p1, dl, gn, sw, fl⟩) (hos : os = opC ⟨kd, rv, cn, dy, ps⟩) (hsl : sl = 0 ∨ sl = 1) : Calls Try.prog 45 #[.agg cs, .agg os, .int .i64 p, .int .i64 sl] w fun e w' => e = .returned (.int .i64 (gateX p (revX r0 r1 sl) ph rv)) ∧ Below w.heap.size w w' := by
  have HC := Lib.hid hcs
  have HO := Lib.hid hos
  have HZC : Hid (cs.size = 12) := Lib.hid (by rw [hcs]; rfl)
  obtain ⟨rr, hrr⟩ : ∃ x, x = revX r0 r1 sl := ⟨_, rfl⟩
  have HV : Hid (∀ V, Calls Try.prog 59 #[.agg cs, .int .i64 sl] V fun e w' => e = .returned (.int .i64 rr) ∧ Below V.heap.size V w') := Lib.hid (fun V => by rw [hrr]; exact prevof_c sl ph ac r0 r1 w0 w1 dl gn sw fl p0 p1 cs V hcs hsl)
  rw [← hrr]
  clear hrr hsl
  clear hcs hos
  go_enter Try.func45, Try.ntmps45
  go_upto_region 2 with (fail)
  refine name_w (fun W => Rw W w.heap.size cs 38 ∧ Rw W (w.heap.size + 1) os 31 ∧ Below w.heap.size w W) ⟨(Rw.new _ _ _).alloc _, ?_, ((Below.refl _ _).alloc (Nat.le_refl _) _).alloc (by simp) _⟩ ?_
  · have h1 := Rw.new (w.alloc (.cells cs 38)) os 31
    rw [size_alloc] at h1
    exact h1
  rintro W ⟨hR, hP, hb⟩
  have HB := Lib.hid hb
  have HR := Lib.hid hR
  have HP := Lib.hid hP
  have c0 : W.cell? ⟨w.heap.size, 0, none⟩ = some (.int .i64 ph) := by rw [hR.cell 0, HC.out]; rfl
  have c1 : W.cell? ⟨w.heap.size, 1, none⟩ = some (.int .i64 ac) := by rw [hR.cell 1, HC.out]; rfl
  have d1 : W.cell? ⟨w.heap.size + 1, 1, none⟩ = some (.int .i64 rv) := by rw [hP.cell 1, HO.out]; rfl
  clear hR hP hb
  cases hi : inR rv 1 1073741824 with
  | false =>
    have HE : Hid (gateX p rr ph rv = 1) := Lib.hid (by have := inR_f hi; unfold gateX; rw [if_pos (by omega)])
    go_wp2_with (first | (go_at_call 57; refine (pisrev_any _ _).mono ?_; rintro e w' ⟨rfl, rfl⟩) | (go_at_call 58; refine (pwithin_any _ _ _ _).mono ?_; rintro e w' ⟨rfl, rfl⟩))
    go_ret
    exact ⟨by rw [HE.out]; rfl, HB.out⟩
  | true =>
  have HI := Lib.hid hi
  by_cases hp : ph = p
  case neg =>
    have e1 : (ph == p) = false := beq_eq_false_iff_ne.2 hp
    have g1 : (ph != p) = true := by rw [bne, e1]; rfl
    have HE : Hid (gateX p rr ph rv = 7) := Lib.hid (by have := inR_t HI.out; unfold gateX; rw [if_neg (by omega), if_pos hp])
    clear hp
    go_wp2_with (first | (go_at_call 57; refine (pisrev_any _ _).mono ?_; rintro e w' ⟨rfl, rfl⟩) | (go_at_call 58; refine (pwithin_any _ _ _ _).mono ?_; rintro e w' ⟨rfl, rfl⟩))
    go_ret
    exact ⟨by rw [HE.out]; rfl, HB.out⟩
  have e1 : (ph == p) = true := by rw [hp]; exact beq_self_eq_true _
  have g1 : (ph != p) = false := by rw [bne, e1]; rfl
  have HPP := Lib.hid hp
  clear hp
  go_upto_region 6 with (first | (go_at_call 57; refine (pisrev_any _ _).mono ?_; rintro e w' ⟨rfl, rfl⟩))
  refine wp_region_held_drew (S := fun Wx => Rw Wx w.heap.size cs 38 ∧ Wx.cell? ⟨w.heap.size, 1, none⟩ = some (.int .i64 ac) ∧ Wx.cell? ⟨w.heap.size + 1, 1, none⟩ = some (.int .i64 rv)) (by kernel_rfl) ⟨HR.out, c1, d1⟩ (fun hHeld => ?_)
  refine wpAnyH_take (i := 0) (oi := { dst := some 20, op := Op.fieldAddr 31 (Operand.tmp 5) 1, type := 0, pos := "may.go:71", after := #[], guard := none }) (v := ?_) rfl (by kernel_rfl) (by kernel_rfl) (by kernel_rfl) (fun _ _ _ h => h) (Or.inl ⟨by rfl, ?_⟩) hHeld ?_
  rotate_left
  · rintro Wx ⟨hS0, hS1, hS2⟩
    (try dsimp only at hS0 hS1 hS2)
    first | (go_simp; done) | (go_simp; with_reducible rfl)
  (try simp only [Act.put, List.setIfInBounds_toArray, List.set_cons_zero, List.set_cons_succ])
  refine wpAnyH_take (i := 1) (oi := { dst := some 21, op := Op.load 3 (Operand.tmp 20), type := 3, pos := "may.go:71", after := #[{ on := 0, ground := Ground.data }], guard := none }) (v := ?_) rfl (by kernel_rfl) (by kernel_rfl) (by kernel_rfl) (fun _ _ _ h => h) (Or.inl ⟨by rfl, ?_⟩) hHeld ?_
  rotate_left
  · rintro Wx ⟨hS0, hS1, hS2⟩
    (try dsimp only at hS0 hS1 hS2)
    first | (go_simp; done) | (go_simp; with_reducible rfl)
  (try simp only [Act.put, List.setIfInBounds_toArray, List.set_cons_zero, List.set_cons_succ])
  refine wpAnyH_take (i := 2) (oi := { dst := some 22, op := Op.load 38 (Operand.tmp 4), type := 38, pos := "may.go:71", after := #[], guard := none }) (v := .agg cs) rfl (by kernel_rfl) (by kernel_rfl) (by kernel_rfl) (fun _ _ _ h => h) (Or.inl ⟨by rfl, fun Wx hS => exec_load_row 38 (.tmp 4) rfl w.heap.size rfl 38 cs (0, 0) _ hS.1 Try.underlying38 rfl (by rw [HZC.out]; exact i12)⟩) hHeld ?_
  (try simp only [Act.put, List.setIfInBounds_toArray, List.set_cons_zero, List.set_cons_succ])
  refine wpAnyH_take (i := 3) (oi := { dst := some 23, op := Op.move (Operand.tmp 3), type := 3, pos := "may.go:71", after := #[], guard := none }) (v := ?_) rfl (by kernel_rfl) (by kernel_rfl) (by kernel_rfl) (fun _ _ _ h => h) (Or.inl ⟨by rfl, ?_⟩) hHeld ?_
  rotate_left
  · rintro Wx ⟨hS0, hS1, hS2⟩
    (try dsimp only at hS0 hS1 hS2)
    first | (go_simp; done) | (go_simp; with_reducible rfl)
  (try simp only [Act.put, List.setIfInBounds_toArray, List.set_cons_zero, List.set_cons_succ])
  refine wpAnyH_ready (rs := [4]) (by kernel_rfl) (by simp) ?_
  refine AllReadyH.cons (o := { dst := some 24, op := Op.call { callee := Callee.value (Operand.func 59), args := #[Operand.tmp 22, Operand.tmp 23], argTypes := #[38, 3] }, type := 3, pos := "may.go:71", after := #[{ on := 2, ground := Ground.data }, { on := 3, ground := Ground.data }], guard := none }) rfl (fun K hK => ?_) AllReadyH.nil
  go_simp
  refine (HV.out _).mono ?_
  rintro e u1 ⟨rfl, hb⟩
  have HR1 := Lib.hid (Rw.under (W := W.drew) HR.out hb HR.out.lt)
  have HP1 := Lib.hid (Rw.under (W := W.drew) HP.out hb HP.out.lt)
  have HB1 := Lib.hid ((below_drew HB.out).trans (hb.mono HB.out.size))
  clear hb
  have x1 : u1.cell? ⟨w.heap.size, 1, none⟩ = some (.int .i64 ac) := by rw [HR1.out.cell 1, HC.out]; rfl
  have y1 : u1.cell? ⟨w.heap.size + 1, 1, none⟩ = some (.int .i64 rv) := by rw [HP1.out.cell 1, HO.out]; rfl
  refine hK.out _ _ ?_ (fun hHeld => ?_)
  · exact ⟨HR1.out, x1, y1⟩
  clear hK K
  (try simp only [Act.put, List.setIfInBounds_toArray, List.set_cons_zero, List.set_cons_succ])
  by_cases hr : rv = rr
  case neg =>
    have e2 : (rv == rr) = false := beq_eq_false_iff_ne.2 hr
    have g2 : (rv != rr) = true := by rw [bne, e2]; rfl
    have HE : Hid (gateX p rr ph rv = 13) := Lib.hid (by have := inR_t HI.out; unfold gateX; rw [if_neg (by omega), if_neg (fun h => h HPP.out), if_pos hr])
    clear hr
    refine wpAnyH_take (i := 5) (oi := { dst := some 25, op := Op.binOp BinOp.neq 3 (Operand.tmp 21) (Operand.tmp 24) 3, type := 4, pos := "may.go:71", after := #[{ on := 1, ground := Ground.data }, { on := 4, ground := Ground.data }], guard := none }) (v := ?_) rfl (by kernel_rfl) (by kernel_rfl) (by kernel_rfl) (fun _ _ _ h => h) (Or.inl ⟨by rfl, ?_⟩) hHeld ?_
    rotate_left
    · rintro Wx ⟨hS0, hS1, hS2⟩
      (try dsimp only at hS0 hS1 hS2)
      first | (go_simp; done) | (go_simp; with_reducible rfl)
    (try simp only [Act.put, List.setIfInBounds_toArray, List.set_cons_zero, List.set_cons_succ])
    refine wpAnyH_take (i := 6) (oi := { dst := some 19, op := Op.assign (Operand.tmp 25), type := 4, pos := "may.go:71", after := #[{ on := 5, ground := Ground.data }, { on := 4, ground := Ground.chain }], guard := none }) (v := ?_) rfl (by kernel_rfl) (by kernel_rfl) (by kernel_rfl) (fun _ _ _ h => h) (Or.inl ⟨by rfl, ?_⟩) hHeld ?_
    rotate_left
    · rintro Wx ⟨hS0, hS1, hS2⟩
      (try dsimp only at hS0 hS1 hS2)
      first | (go_simp; done) | (go_simp; with_reducible rfl)
    (try simp only [Act.put, List.setIfInBounds_toArray, List.set_cons_zero, List.set_cons_succ])
    refine wpAnyH_done (by kernel_rfl) ?_ _
    go_wp2
    go_ret
    exact ⟨by rw [HE.out]; rfl, HB1.out⟩
  have e2 : (rv == rr) = true := by rw [hr]; exact beq_self_eq_true _
  have g2 : (rv != rr) = false := by rw [bne, e2]; rfl
  have HRR := Lib.hid hr
  clear hr
  have HE : Hid (gateX p rr ph rv = 0) := Lib.hid (by have := inR_t HI.out; unfold gateX; rw [if_neg (by omega), if_neg (fun h => h HPP.out), if_neg (fun h => h HRR.out)])
  refine wpAnyH_take (i := 5) (oi := { dst := some 25, op := Op.binOp BinOp.neq 3 (Operand.tmp 21) (Operand.tmp 24) 3, type := 4, pos := "may.go:71", after := #[{ on := 1, ground := Ground.data }, { on := 4, ground := Ground.data }], guard := none }) (v := ?_) rfl (by kernel_rfl) (by kernel_rfl) (by kernel_rfl) (fun _ _ _ h => h) (Or.inl ⟨by rfl, ?_⟩) hHeld ?_
  rotate_left
  · rintro Wx ⟨hS0, hS1, hS2⟩
    (try dsimp only at hS0 hS1 hS2)
    first | (go_simp; done) | (go_simp; with_reducible rfl)
  (try simp only [Act.put, List.setIfInBounds_toArray, List.set_cons_zero, List.set_cons_succ])
  refine wpAnyH_take (i := 6) (oi := { dst := some 19, op := Op.assign (Operand.tmp 25), type := 4, pos := "may.go:71", after := #[{ on := 5, ground := Ground.data }, { on := 4, ground := Ground.chain }], guard := none }) (v := ?_) rfl (by kernel_rfl) (by kernel_rfl) (by kernel_rfl) (fun _ _ _ h => h) (Or.inl ⟨by rfl, ?_⟩) hHeld ?_
  rotate_left
  · rintro Wx ⟨hS0, hS1, hS2⟩
    (try dsimp only at hS0 hS1 hS2)
    first | (go_simp; done) | (go_simp; with_reducible rfl)
  (try simp only [Act.put, List.setIfInBounds_toArray, List.set_cons_zero, List.set_cons_succ])
  refine wpAnyH_done (by kernel_rfl) ?_ _
  go_wp2
  go_ret
  exact ⟨by rw [HE.out]; rfl, HB1.out⟩
def depX (ph ra gn rv cn dy now : Int) : Int := if rv < 1 ∨ 1073741824 < rv ∨ cn < 1 ∨ 32 < cn ∨ dy < 0 ∨ 65536 < dy then 1 else if 1073741824 ≤ now ∨ 1048574 < gn then 9 else if ph ≠ 0 ∧ ph ≠ 1 ∧ ph ≠ 2 then 7 else if rv = ra then 8 else 0
set_option maxRecDepth 100000 in
set_option maxHeartbeats 8000000 in
theorem pdeploy_c (now : Int) (ph ac r0 r1 w0 w1 dl gn sw fl : Int) (p0 p1 : Bool) (cs : Array Value) (kd rv cn dy : Int) (ps : Bool) (os : Array Value) (w : World) (hcs : cs = stC ⟨ph, ac, r0, r1, w0, w1, p0, p1, dl, gn, sw, fl⟩) (hos : os = opC ⟨kd, rv, cn, dy, ps⟩) (hsl : ac = 0 ∨ ac = 1) : Calls Try.prog 43 #[.agg cs, .agg os, .int .i64 now] w fun e w' => e = .returned (.int .i64 (depX ph (revX r0 r1 ac) gn rv cn dy now)) ∧ Below w.heap.size w w' := by
  have HC := Lib.hid hcs
  have HO := Lib.hid hos
  have HZC : Hid (cs.size = 12) := Lib.hid (by rw [hcs]; rfl)
  obtain ⟨rr, hrr⟩ : ∃ x, x = revX r0 r1 ac := ⟨_, rfl⟩
  have HV : Hid (∀ V, Calls Try.prog 59 #[.agg cs, .int .i64 ac] V fun e w' => e = .returned (.int .i64 rr) ∧ Below V.heap.size V w') := Lib.hid (fun V => by rw [hrr]; exact prevof_c ac ph ac r0 r1 w0 w1 dl gn sw fl p0 p1 cs V hcs hsl)
  rw [← hrr]
  clear hrr hsl
  clear hcs hos
  go_enter Try.func43, Try.ntmps43
  go_upto_region 1 with (fail)
  refine name_w (fun W => Rw W w.heap.size cs 38 ∧ Rw W (w.heap.size + 1) os 31 ∧ Below w.heap.size w W) ⟨(Rw.new _ _ _).alloc _, ?_, ((Below.refl _ _).alloc (Nat.le_refl _) _).alloc (by simp) _⟩ ?_
  · have h1 := Rw.new (w.alloc (.cells cs 38)) os 31
    rw [size_alloc] at h1
    exact h1
  rintro W ⟨hR, hP, hb⟩
  have HB := Lib.hid hb
  have HR := Lib.hid hR
  have HP := Lib.hid hP
  have c0 : W.cell? ⟨w.heap.size, 0, none⟩ = some (.int .i64 ph) := by rw [hR.cell 0, HC.out]; rfl
  have c1 : W.cell? ⟨w.heap.size, 1, none⟩ = some (.int .i64 ac) := by rw [hR.cell 1, HC.out]; rfl
  have c9 : W.cell? ⟨w.heap.size, 9, none⟩ = some (.int .i64 gn) := by rw [hR.cell 9, HC.out]; rfl
  have d1 : W.cell? ⟨w.heap.size + 1, 1, none⟩ = some (.int .i64 rv) := by rw [hP.cell 1, HO.out]; rfl
  have d2 : W.cell? ⟨w.heap.size + 1, 2, none⟩ = some (.int .i64 cn) := by rw [hP.cell 2, HO.out]; rfl
  have d3 : W.cell? ⟨w.heap.size + 1, 3, none⟩ = some (.int .i64 dy) := by rw [hP.cell 3, HO.out]; rfl
  clear hR hP hb
  cases hi : inR rv 1 1073741824 with
  | false =>
    have HE : Hid (depX ph rr gn rv cn dy now = 1) := Lib.hid (by have k := inR_f hi; unfold depX; rw [if_pos (by omega)])
    go_wp2_with (first | (go_at_call 57; refine (pisrev_any _ _).mono ?_; rintro e w' ⟨rfl, rfl⟩) | (go_at_call 58; refine (pwithin_any _ _ _ _).mono ?_; rintro e w' ⟨rfl, rfl⟩))
    go_ret
    exact ⟨by rw [HE.out]; rfl, HB.out⟩
  | true =>
  have H0 := Lib.hid hi
  have i0x : inR rv 1 1073741824 = true := hi
  clear hi
  cases hi : inR cn 1 32 with
  | false =>
    have HE : Hid (depX ph rr gn rv cn dy now = 1) := Lib.hid (by have k0 := inR_t H0.out; have k := inR_f hi; unfold depX; rw [if_pos (by omega)])
    go_wp2_with (first | (go_at_call 57; refine (pisrev_any _ _).mono ?_; rintro e w' ⟨rfl, rfl⟩) | (go_at_call 58; refine (pwithin_any _ _ _ _).mono ?_; rintro e w' ⟨rfl, rfl⟩))
    go_ret
    exact ⟨by rw [HE.out]; rfl, HB.out⟩
  | true =>
  have H1 := Lib.hid hi
  have i1x : inR cn 1 32 = true := hi
  clear hi
  cases hi : inR dy 0 65536 with
  | false =>
    have HE : Hid (depX ph rr gn rv cn dy now = 1) := Lib.hid (by have k0 := inR_t H0.out; have k1 := inR_t H1.out; have k := inR_f hi; unfold depX; rw [if_pos (by omega)])
    go_wp2_with (first | (go_at_call 57; refine (pisrev_any _ _).mono ?_; rintro e w' ⟨rfl, rfl⟩) | (go_at_call 58; refine (pwithin_any _ _ _ _).mono ?_; rintro e w' ⟨rfl, rfl⟩))
    go_ret
    exact ⟨by rw [HE.out]; rfl, HB.out⟩
  | true =>
  have H2 := Lib.hid hi
  have i2x : inR dy 0 65536 = true := hi
  clear hi
  go_upto_region 5 with (first | (go_at_call 57; refine (pisrev_any _ _).mono ?_; rintro e w' ⟨rfl, rfl⟩) | (go_at_call 58; refine (pwithin_any _ _ _ _).mono ?_; rintro e w' ⟨rfl, rfl⟩))
  by_cases h1 : 1073741824 ≤ now
  case pos =>
    have e1 : decide (1073741824 ≤ now) = true := decide_eq_true h1
    have K1 := Lib.hid h1
    clear h1
    have HE : Hid (depX ph rr gn rv cn dy now = 9) := Lib.hid (by have j0 := inR_t H0.out; have j1 := inR_t H1.out; have j2 := inR_t H2.out; have k1 := K1.out; unfold depX; (repeat' split) <;> first | rfl | (exfalso; omega))
    go_wp2
    go_ret
    exact ⟨by rw [HE.out]; rfl, HB.out⟩
  have e1 : decide (1073741824 ≤ now) = false := decide_eq_false h1
  have K1 := Lib.hid h1
  clear h1
  by_cases h2 : 1048574 < gn
  case pos =>
    have e2 : decide (1048574 < gn) = true := decide_eq_true h2
    have K2 := Lib.hid h2
    clear h2
    have HE : Hid (depX ph rr gn rv cn dy now = 9) := Lib.hid (by have j0 := inR_t H0.out; have j1 := inR_t H1.out; have j2 := inR_t H2.out; have k1 := K1.out; have k2 := K2.out; unfold depX; (repeat' split) <;> first | rfl | (exfalso; omega))
    go_wp2
    go_ret
    exact ⟨by rw [HE.out]; rfl, HB.out⟩
  have e2 : decide (1048574 < gn) = false := decide_eq_false h2
  have K2 := Lib.hid h2
  clear h2
  go_upto_region 7 with (fail)
  by_cases h3 : ph = 0
  case pos =>
    have e3 : (ph == 0) = true := by rw [h3]; exact beq_self_eq_true _
    have g3 : (ph != 0) = false := by rw [bne, e3]; rfl
    have K3 := Lib.hid h3
    clear h3
    go_upto_region 9 with (fail)
    refine wp_region_held_drew (S := fun Wx => Rw Wx w.heap.size cs 38 ∧ Wx.cell? ⟨w.heap.size, 1, none⟩ = some (.int .i64 ac) ∧ Wx.cell? ⟨w.heap.size + 1, 1, none⟩ = some (.int .i64 rv)) (by kernel_rfl) ⟨HR.out, c1, d1⟩ (fun hHeld => ?_)
    refine wpAnyH_take (i := 0) (oi := { dst := some 47, op := Op.fieldAddr 31 (Operand.tmp 4) 1, type := 0, pos := "may.go:44", after := #[], guard := none }) (v := ?_) rfl (by kernel_rfl) (by kernel_rfl) (by kernel_rfl) (fun _ _ _ h => h) (Or.inl ⟨by rfl, ?_⟩) hHeld ?_
    rotate_left
    · rintro Wx ⟨hS0, hS1, hS2⟩
      (try dsimp only at hS0 hS1 hS2)
      first | (go_simp; done) | (go_simp; with_reducible rfl)
    (try simp only [Act.put, List.setIfInBounds_toArray, List.set_cons_zero, List.set_cons_succ])
    refine wpAnyH_take (i := 1) (oi := { dst := some 48, op := Op.load 3 (Operand.tmp 47), type := 3, pos := "may.go:44", after := #[{ on := 0, ground := Ground.data }], guard := none }) (v := ?_) rfl (by kernel_rfl) (by kernel_rfl) (by kernel_rfl) (fun _ _ _ h => h) (Or.inl ⟨by rfl, ?_⟩) hHeld ?_
    rotate_left
    · rintro Wx ⟨hS0, hS1, hS2⟩
      (try dsimp only at hS0 hS1 hS2)
      first | (go_simp; done) | (go_simp; with_reducible rfl)
    (try simp only [Act.put, List.setIfInBounds_toArray, List.set_cons_zero, List.set_cons_succ])
    refine wpAnyH_take (i := 2) (oi := { dst := some 49, op := Op.load 38 (Operand.tmp 3), type := 38, pos := "may.go:44", after := #[], guard := none }) (v := .agg cs) rfl (by kernel_rfl) (by kernel_rfl) (by kernel_rfl) (fun _ _ _ h => h) (Or.inl ⟨by rfl, fun Wx hS => exec_load_row 38 (.tmp 3) rfl w.heap.size rfl 38 cs (0, 0) _ hS.1 Try.underlying38 rfl (by rw [HZC.out]; exact i12)⟩) hHeld ?_
    (try simp only [Act.put, List.setIfInBounds_toArray, List.set_cons_zero, List.set_cons_succ])
    refine wpAnyH_take (i := 3) (oi := { dst := some 50, op := Op.fieldAddr 38 (Operand.tmp 3) 1, type := 0, pos := "may.go:44", after := #[], guard := none }) (v := ?_) rfl (by kernel_rfl) (by kernel_rfl) (by kernel_rfl) (fun _ _ _ h => h) (Or.inl ⟨by rfl, ?_⟩) hHeld ?_
    rotate_left
    · rintro Wx ⟨hS0, hS1, hS2⟩
      (try dsimp only at hS0 hS1 hS2)
      first | (go_simp; done) | (go_simp; with_reducible rfl)
    (try simp only [Act.put, List.setIfInBounds_toArray, List.set_cons_zero, List.set_cons_succ])
    refine wpAnyH_take (i := 4) (oi := { dst := some 51, op := Op.load 3 (Operand.tmp 50), type := 3, pos := "may.go:44", after := #[{ on := 3, ground := Ground.data }], guard := none }) (v := ?_) rfl (by kernel_rfl) (by kernel_rfl) (by kernel_rfl) (fun _ _ _ h => h) (Or.inl ⟨by rfl, ?_⟩) hHeld ?_
    rotate_left
    · rintro Wx ⟨hS0, hS1, hS2⟩
      (try dsimp only at hS0 hS1 hS2)
      first | (go_simp; done) | (go_simp; with_reducible rfl)
    (try simp only [Act.put, List.setIfInBounds_toArray, List.set_cons_zero, List.set_cons_succ])
    refine wpAnyH_ready (rs := [5]) (by kernel_rfl) (by simp) ?_
    refine AllReadyH.cons (o := { dst := some 52, op := Op.call { callee := Callee.value (Operand.func 59), args := #[Operand.tmp 49, Operand.tmp 51], argTypes := #[38, 3] }, type := 3, pos := "may.go:44", after := #[{ on := 2, ground := Ground.data }, { on := 4, ground := Ground.data }], guard := none }) rfl (fun K hK => ?_) AllReadyH.nil
    go_simp
    refine (HV.out _).mono ?_
    rintro e u1 ⟨rfl, hb⟩
    have HR1 := Lib.hid (Rw.under (W := W.drew) HR.out hb HR.out.lt)
    have HP1 := Lib.hid (Rw.under (W := W.drew) HP.out hb HP.out.lt)
    have HB1 := Lib.hid ((below_drew HB.out).trans (hb.mono HB.out.size))
    clear hb
    have x1 : u1.cell? ⟨w.heap.size, 1, none⟩ = some (.int .i64 ac) := by rw [HR1.out.cell 1, HC.out]; rfl
    have y1 : u1.cell? ⟨w.heap.size + 1, 1, none⟩ = some (.int .i64 rv) := by rw [HP1.out.cell 1, HO.out]; rfl
    refine hK.out _ _ ?_ (fun hHeld => ?_)
    · exact ⟨HR1.out, x1, y1⟩
    clear hK K
    (try simp only [Act.put, List.setIfInBounds_toArray, List.set_cons_zero, List.set_cons_succ])
    by_cases h4 : rv = rr
    case pos =>
      have e4 : (rv == rr) = true := by rw [h4]; exact beq_self_eq_true _
      have g4 : (rv != rr) = false := by rw [bne, e4]; rfl
      have K4 := Lib.hid h4
      clear h4
      have HE : Hid (depX ph rr gn rv cn dy now = 8) := Lib.hid (by have j0 := inR_t H0.out; have j1 := inR_t H1.out; have j2 := inR_t H2.out; have k1 := K1.out; have k2 := K2.out; have k3 := K3.out; have k4 := K4.out; unfold depX; (repeat' split) <;> first | rfl | (exfalso; omega))
      refine wpAnyH_take (i := 6) (oi := { dst := some 53, op := Op.binOp BinOp.eql 3 (Operand.tmp 48) (Operand.tmp 52) 3, type := 4, pos := "may.go:44", after := #[{ on := 1, ground := Ground.data }, { on := 5, ground := Ground.data }], guard := none }) (v := ?_) rfl (by kernel_rfl) (by kernel_rfl) (by kernel_rfl) (fun _ _ _ h => h) (Or.inl ⟨by rfl, ?_⟩) hHeld ?_
      rotate_left
      · rintro Wx ⟨hS0, hS1, hS2⟩
        (try dsimp only at hS0 hS1 hS2)
        first | (go_simp; done) | (go_simp; with_reducible rfl)
      (try simp only [Act.put, List.setIfInBounds_toArray, List.set_cons_zero, List.set_cons_succ])
      refine wpAnyH_take (i := 7) (oi := { dst := some 46, op := Op.assign (Operand.tmp 53), type := 4, pos := "may.go:44", after := #[{ on := 6, ground := Ground.data }, { on := 5, ground := Ground.chain }], guard := none }) (v := ?_) rfl (by kernel_rfl) (by kernel_rfl) (by kernel_rfl) (fun _ _ _ h => h) (Or.inl ⟨by rfl, ?_⟩) hHeld ?_
      rotate_left
      · rintro Wx ⟨hS0, hS1, hS2⟩
        (try dsimp only at hS0 hS1 hS2)
        first | (go_simp; done) | (go_simp; with_reducible rfl)
      (try simp only [Act.put, List.setIfInBounds_toArray, List.set_cons_zero, List.set_cons_succ])
      refine wpAnyH_done (by kernel_rfl) ?_ _
      go_wp2
      go_ret
      exact ⟨by rw [HE.out]; rfl, HB1.out⟩
    have e4 : (rv == rr) = false := beq_eq_false_iff_ne.2 h4
    have g4 : (rv != rr) = true := by rw [bne, e4]; rfl
    have K4 := Lib.hid h4
    clear h4
    have HE : Hid (depX ph rr gn rv cn dy now = 0) := Lib.hid (by have j0 := inR_t H0.out; have j1 := inR_t H1.out; have j2 := inR_t H2.out; have k1 := K1.out; have k2 := K2.out; have k3 := K3.out; have k4 := K4.out; unfold depX; (repeat' split) <;> first | rfl | (exfalso; omega))
    refine wpAnyH_take (i := 6) (oi := { dst := some 53, op := Op.binOp BinOp.eql 3 (Operand.tmp 48) (Operand.tmp 52) 3, type := 4, pos := "may.go:44", after := #[{ on := 1, ground := Ground.data }, { on := 5, ground := Ground.data }], guard := none }) (v := ?_) rfl (by kernel_rfl) (by kernel_rfl) (by kernel_rfl) (fun _ _ _ h => h) (Or.inl ⟨by rfl, ?_⟩) hHeld ?_
    rotate_left
    · rintro Wx ⟨hS0, hS1, hS2⟩
      (try dsimp only at hS0 hS1 hS2)
      first | (go_simp; done) | (go_simp; with_reducible rfl)
    (try simp only [Act.put, List.setIfInBounds_toArray, List.set_cons_zero, List.set_cons_succ])
    refine wpAnyH_take (i := 7) (oi := { dst := some 46, op := Op.assign (Operand.tmp 53), type := 4, pos := "may.go:44", after := #[{ on := 6, ground := Ground.data }, { on := 5, ground := Ground.chain }], guard := none }) (v := ?_) rfl (by kernel_rfl) (by kernel_rfl) (by kernel_rfl) (fun _ _ _ h => h) (Or.inl ⟨by rfl, ?_⟩) hHeld ?_
    rotate_left
    · rintro Wx ⟨hS0, hS1, hS2⟩
      (try dsimp only at hS0 hS1 hS2)
      first | (go_simp; done) | (go_simp; with_reducible rfl)
    (try simp only [Act.put, List.setIfInBounds_toArray, List.set_cons_zero, List.set_cons_succ])
    refine wpAnyH_done (by kernel_rfl) ?_ _
    go_wp2
    go_ret
    exact ⟨by rw [HE.out]; rfl, HB1.out⟩
  have e3 : (ph == 0) = false := beq_eq_false_iff_ne.2 h3
  have g3 : (ph != 0) = true := by rw [bne, e3]; rfl
  have K3 := Lib.hid h3
  clear h3
  by_cases h5 : ph = 1
  case pos =>
    have e5 : (ph == 1) = true := by rw [h5]; exact beq_self_eq_true _
    have g5 : (ph != 1) = false := by rw [bne, e5]; rfl
    have K5 := Lib.hid h5
    clear h5
    go_upto_region 9 with (fail)
    refine wp_region_held_drew (S := fun Wx => Rw Wx w.heap.size cs 38 ∧ Wx.cell? ⟨w.heap.size, 1, none⟩ = some (.int .i64 ac) ∧ Wx.cell? ⟨w.heap.size + 1, 1, none⟩ = some (.int .i64 rv)) (by kernel_rfl) ⟨HR.out, c1, d1⟩ (fun hHeld => ?_)
    refine wpAnyH_take (i := 0) (oi := { dst := some 47, op := Op.fieldAddr 31 (Operand.tmp 4) 1, type := 0, pos := "may.go:44", after := #[], guard := none }) (v := ?_) rfl (by kernel_rfl) (by kernel_rfl) (by kernel_rfl) (fun _ _ _ h => h) (Or.inl ⟨by rfl, ?_⟩) hHeld ?_
    rotate_left
    · rintro Wx ⟨hS0, hS1, hS2⟩
      (try dsimp only at hS0 hS1 hS2)
      first | (go_simp; done) | (go_simp; with_reducible rfl)
    (try simp only [Act.put, List.setIfInBounds_toArray, List.set_cons_zero, List.set_cons_succ])
    refine wpAnyH_take (i := 1) (oi := { dst := some 48, op := Op.load 3 (Operand.tmp 47), type := 3, pos := "may.go:44", after := #[{ on := 0, ground := Ground.data }], guard := none }) (v := ?_) rfl (by kernel_rfl) (by kernel_rfl) (by kernel_rfl) (fun _ _ _ h => h) (Or.inl ⟨by rfl, ?_⟩) hHeld ?_
    rotate_left
    · rintro Wx ⟨hS0, hS1, hS2⟩
      (try dsimp only at hS0 hS1 hS2)
      first | (go_simp; done) | (go_simp; with_reducible rfl)
    (try simp only [Act.put, List.setIfInBounds_toArray, List.set_cons_zero, List.set_cons_succ])
    refine wpAnyH_take (i := 2) (oi := { dst := some 49, op := Op.load 38 (Operand.tmp 3), type := 38, pos := "may.go:44", after := #[], guard := none }) (v := .agg cs) rfl (by kernel_rfl) (by kernel_rfl) (by kernel_rfl) (fun _ _ _ h => h) (Or.inl ⟨by rfl, fun Wx hS => exec_load_row 38 (.tmp 3) rfl w.heap.size rfl 38 cs (0, 0) _ hS.1 Try.underlying38 rfl (by rw [HZC.out]; exact i12)⟩) hHeld ?_
    (try simp only [Act.put, List.setIfInBounds_toArray, List.set_cons_zero, List.set_cons_succ])
    refine wpAnyH_take (i := 3) (oi := { dst := some 50, op := Op.fieldAddr 38 (Operand.tmp 3) 1, type := 0, pos := "may.go:44", after := #[], guard := none }) (v := ?_) rfl (by kernel_rfl) (by kernel_rfl) (by kernel_rfl) (fun _ _ _ h => h) (Or.inl ⟨by rfl, ?_⟩) hHeld ?_
    rotate_left
    · rintro Wx ⟨hS0, hS1, hS2⟩
      (try dsimp only at hS0 hS1 hS2)
      first | (go_simp; done) | (go_simp; with_reducible rfl)
    (try simp only [Act.put, List.setIfInBounds_toArray, List.set_cons_zero, List.set_cons_succ])
    refine wpAnyH_take (i := 4) (oi := { dst := some 51, op := Op.load 3 (Operand.tmp 50), type := 3, pos := "may.go:44", after := #[{ on := 3, ground := Ground.data }], guard := none }) (v := ?_) rfl (by kernel_rfl) (by kernel_rfl) (by kernel_rfl) (fun _ _ _ h => h) (Or.inl ⟨by rfl, ?_⟩) hHeld ?_
    rotate_left
    · rintro Wx ⟨hS0, hS1, hS2⟩
      (try dsimp only at hS0 hS1 hS2)
      first | (go_simp; done) | (go_simp; with_reducible rfl)
    (try simp only [Act.put, List.setIfInBounds_toArray, List.set_cons_zero, List.set_cons_succ])
    refine wpAnyH_ready (rs := [5]) (by kernel_rfl) (by simp) ?_
    refine AllReadyH.cons (o := { dst := some 52, op := Op.call { callee := Callee.value (Operand.func 59), args := #[Operand.tmp 49, Operand.tmp 51], argTypes := #[38, 3] }, type := 3, pos := "may.go:44", after := #[{ on := 2, ground := Ground.data }, { on := 4, ground := Ground.data }], guard := none }) rfl (fun K hK => ?_) AllReadyH.nil
    go_simp
    refine (HV.out _).mono ?_
    rintro e u1 ⟨rfl, hb⟩
    have HR1 := Lib.hid (Rw.under (W := W.drew) HR.out hb HR.out.lt)
    have HP1 := Lib.hid (Rw.under (W := W.drew) HP.out hb HP.out.lt)
    have HB1 := Lib.hid ((below_drew HB.out).trans (hb.mono HB.out.size))
    clear hb
    have x1 : u1.cell? ⟨w.heap.size, 1, none⟩ = some (.int .i64 ac) := by rw [HR1.out.cell 1, HC.out]; rfl
    have y1 : u1.cell? ⟨w.heap.size + 1, 1, none⟩ = some (.int .i64 rv) := by rw [HP1.out.cell 1, HO.out]; rfl
    refine hK.out _ _ ?_ (fun hHeld => ?_)
    · exact ⟨HR1.out, x1, y1⟩
    clear hK K
    (try simp only [Act.put, List.setIfInBounds_toArray, List.set_cons_zero, List.set_cons_succ])
    by_cases h6 : rv = rr
    case pos =>
      have e6 : (rv == rr) = true := by rw [h6]; exact beq_self_eq_true _
      have g6 : (rv != rr) = false := by rw [bne, e6]; rfl
      have K6 := Lib.hid h6
      clear h6
      have HE : Hid (depX ph rr gn rv cn dy now = 8) := Lib.hid (by have j0 := inR_t H0.out; have j1 := inR_t H1.out; have j2 := inR_t H2.out; have k1 := K1.out; have k2 := K2.out; have k3 := K3.out; have k5 := K5.out; have k6 := K6.out; unfold depX; (repeat' split) <;> first | rfl | (exfalso; omega))
      refine wpAnyH_take (i := 6) (oi := { dst := some 53, op := Op.binOp BinOp.eql 3 (Operand.tmp 48) (Operand.tmp 52) 3, type := 4, pos := "may.go:44", after := #[{ on := 1, ground := Ground.data }, { on := 5, ground := Ground.data }], guard := none }) (v := ?_) rfl (by kernel_rfl) (by kernel_rfl) (by kernel_rfl) (fun _ _ _ h => h) (Or.inl ⟨by rfl, ?_⟩) hHeld ?_
      rotate_left
      · rintro Wx ⟨hS0, hS1, hS2⟩
        (try dsimp only at hS0 hS1 hS2)
        first | (go_simp; done) | (go_simp; with_reducible rfl)
      (try simp only [Act.put, List.setIfInBounds_toArray, List.set_cons_zero, List.set_cons_succ])
      refine wpAnyH_take (i := 7) (oi := { dst := some 46, op := Op.assign (Operand.tmp 53), type := 4, pos := "may.go:44", after := #[{ on := 6, ground := Ground.data }, { on := 5, ground := Ground.chain }], guard := none }) (v := ?_) rfl (by kernel_rfl) (by kernel_rfl) (by kernel_rfl) (fun _ _ _ h => h) (Or.inl ⟨by rfl, ?_⟩) hHeld ?_
      rotate_left
      · rintro Wx ⟨hS0, hS1, hS2⟩
        (try dsimp only at hS0 hS1 hS2)
        first | (go_simp; done) | (go_simp; with_reducible rfl)
      (try simp only [Act.put, List.setIfInBounds_toArray, List.set_cons_zero, List.set_cons_succ])
      refine wpAnyH_done (by kernel_rfl) ?_ _
      go_wp2
      go_ret
      exact ⟨by rw [HE.out]; rfl, HB1.out⟩
    have e6 : (rv == rr) = false := beq_eq_false_iff_ne.2 h6
    have g6 : (rv != rr) = true := by rw [bne, e6]; rfl
    have K6 := Lib.hid h6
    clear h6
    have HE : Hid (depX ph rr gn rv cn dy now = 0) := Lib.hid (by have j0 := inR_t H0.out; have j1 := inR_t H1.out; have j2 := inR_t H2.out; have k1 := K1.out; have k2 := K2.out; have k3 := K3.out; have k5 := K5.out; have k6 := K6.out; unfold depX; (repeat' split) <;> first | rfl | (exfalso; omega))
    refine wpAnyH_take (i := 6) (oi := { dst := some 53, op := Op.binOp BinOp.eql 3 (Operand.tmp 48) (Operand.tmp 52) 3, type := 4, pos := "may.go:44", after := #[{ on := 1, ground := Ground.data }, { on := 5, ground := Ground.data }], guard := none }) (v := ?_) rfl (by kernel_rfl) (by kernel_rfl) (by kernel_rfl) (fun _ _ _ h => h) (Or.inl ⟨by rfl, ?_⟩) hHeld ?_
    rotate_left
    · rintro Wx ⟨hS0, hS1, hS2⟩
      (try dsimp only at hS0 hS1 hS2)
      first | (go_simp; done) | (go_simp; with_reducible rfl)
    (try simp only [Act.put, List.setIfInBounds_toArray, List.set_cons_zero, List.set_cons_succ])
    refine wpAnyH_take (i := 7) (oi := { dst := some 46, op := Op.assign (Operand.tmp 53), type := 4, pos := "may.go:44", after := #[{ on := 6, ground := Ground.data }, { on := 5, ground := Ground.chain }], guard := none }) (v := ?_) rfl (by kernel_rfl) (by kernel_rfl) (by kernel_rfl) (fun _ _ _ h => h) (Or.inl ⟨by rfl, ?_⟩) hHeld ?_
    rotate_left
    · rintro Wx ⟨hS0, hS1, hS2⟩
      (try dsimp only at hS0 hS1 hS2)
      first | (go_simp; done) | (go_simp; with_reducible rfl)
    (try simp only [Act.put, List.setIfInBounds_toArray, List.set_cons_zero, List.set_cons_succ])
    refine wpAnyH_done (by kernel_rfl) ?_ _
    go_wp2
    go_ret
    exact ⟨by rw [HE.out]; rfl, HB1.out⟩
  have e5 : (ph == 1) = false := beq_eq_false_iff_ne.2 h5
  have g5 : (ph != 1) = true := by rw [bne, e5]; rfl
  have K5 := Lib.hid h5
  clear h5
  by_cases h7 : ph = 2
  case pos =>
    have e7 : (ph == 2) = true := by rw [h7]; exact beq_self_eq_true _
    have g7 : (ph != 2) = false := by rw [bne, e7]; rfl
    have K7 := Lib.hid h7
    clear h7
    go_upto_region 9 with (fail)
    refine wp_region_held_drew (S := fun Wx => Rw Wx w.heap.size cs 38 ∧ Wx.cell? ⟨w.heap.size, 1, none⟩ = some (.int .i64 ac) ∧ Wx.cell? ⟨w.heap.size + 1, 1, none⟩ = some (.int .i64 rv)) (by kernel_rfl) ⟨HR.out, c1, d1⟩ (fun hHeld => ?_)
    refine wpAnyH_take (i := 0) (oi := { dst := some 47, op := Op.fieldAddr 31 (Operand.tmp 4) 1, type := 0, pos := "may.go:44", after := #[], guard := none }) (v := ?_) rfl (by kernel_rfl) (by kernel_rfl) (by kernel_rfl) (fun _ _ _ h => h) (Or.inl ⟨by rfl, ?_⟩) hHeld ?_
    rotate_left
    · rintro Wx ⟨hS0, hS1, hS2⟩
      (try dsimp only at hS0 hS1 hS2)
      first | (go_simp; done) | (go_simp; with_reducible rfl)
    (try simp only [Act.put, List.setIfInBounds_toArray, List.set_cons_zero, List.set_cons_succ])
    refine wpAnyH_take (i := 1) (oi := { dst := some 48, op := Op.load 3 (Operand.tmp 47), type := 3, pos := "may.go:44", after := #[{ on := 0, ground := Ground.data }], guard := none }) (v := ?_) rfl (by kernel_rfl) (by kernel_rfl) (by kernel_rfl) (fun _ _ _ h => h) (Or.inl ⟨by rfl, ?_⟩) hHeld ?_
    rotate_left
    · rintro Wx ⟨hS0, hS1, hS2⟩
      (try dsimp only at hS0 hS1 hS2)
      first | (go_simp; done) | (go_simp; with_reducible rfl)
    (try simp only [Act.put, List.setIfInBounds_toArray, List.set_cons_zero, List.set_cons_succ])
    refine wpAnyH_take (i := 2) (oi := { dst := some 49, op := Op.load 38 (Operand.tmp 3), type := 38, pos := "may.go:44", after := #[], guard := none }) (v := .agg cs) rfl (by kernel_rfl) (by kernel_rfl) (by kernel_rfl) (fun _ _ _ h => h) (Or.inl ⟨by rfl, fun Wx hS => exec_load_row 38 (.tmp 3) rfl w.heap.size rfl 38 cs (0, 0) _ hS.1 Try.underlying38 rfl (by rw [HZC.out]; exact i12)⟩) hHeld ?_
    (try simp only [Act.put, List.setIfInBounds_toArray, List.set_cons_zero, List.set_cons_succ])
    refine wpAnyH_take (i := 3) (oi := { dst := some 50, op := Op.fieldAddr 38 (Operand.tmp 3) 1, type := 0, pos := "may.go:44", after := #[], guard := none }) (v := ?_) rfl (by kernel_rfl) (by kernel_rfl) (by kernel_rfl) (fun _ _ _ h => h) (Or.inl ⟨by rfl, ?_⟩) hHeld ?_
    rotate_left
    · rintro Wx ⟨hS0, hS1, hS2⟩
      (try dsimp only at hS0 hS1 hS2)
      first | (go_simp; done) | (go_simp; with_reducible rfl)
    (try simp only [Act.put, List.setIfInBounds_toArray, List.set_cons_zero, List.set_cons_succ])
    refine wpAnyH_take (i := 4) (oi := { dst := some 51, op := Op.load 3 (Operand.tmp 50), type := 3, pos := "may.go:44", after := #[{ on := 3, ground := Ground.data }], guard := none }) (v := ?_) rfl (by kernel_rfl) (by kernel_rfl) (by kernel_rfl) (fun _ _ _ h => h) (Or.inl ⟨by rfl, ?_⟩) hHeld ?_
    rotate_left
    · rintro Wx ⟨hS0, hS1, hS2⟩
      (try dsimp only at hS0 hS1 hS2)
      first | (go_simp; done) | (go_simp; with_reducible rfl)
    (try simp only [Act.put, List.setIfInBounds_toArray, List.set_cons_zero, List.set_cons_succ])
    refine wpAnyH_ready (rs := [5]) (by kernel_rfl) (by simp) ?_
    refine AllReadyH.cons (o := { dst := some 52, op := Op.call { callee := Callee.value (Operand.func 59), args := #[Operand.tmp 49, Operand.tmp 51], argTypes := #[38, 3] }, type := 3, pos := "may.go:44", after := #[{ on := 2, ground := Ground.data }, { on := 4, ground := Ground.data }], guard := none }) rfl (fun K hK => ?_) AllReadyH.nil
    go_simp
    refine (HV.out _).mono ?_
    rintro e u1 ⟨rfl, hb⟩
    have HR1 := Lib.hid (Rw.under (W := W.drew) HR.out hb HR.out.lt)
    have HP1 := Lib.hid (Rw.under (W := W.drew) HP.out hb HP.out.lt)
    have HB1 := Lib.hid ((below_drew HB.out).trans (hb.mono HB.out.size))
    clear hb
    have x1 : u1.cell? ⟨w.heap.size, 1, none⟩ = some (.int .i64 ac) := by rw [HR1.out.cell 1, HC.out]; rfl
    have y1 : u1.cell? ⟨w.heap.size + 1, 1, none⟩ = some (.int .i64 rv) := by rw [HP1.out.cell 1, HO.out]; rfl
    refine hK.out _ _ ?_ (fun hHeld => ?_)
    · exact ⟨HR1.out, x1, y1⟩
    clear hK K
    (try simp only [Act.put, List.setIfInBounds_toArray, List.set_cons_zero, List.set_cons_succ])
    by_cases h8 : rv = rr
    case pos =>
      have e8 : (rv == rr) = true := by rw [h8]; exact beq_self_eq_true _
      have g8 : (rv != rr) = false := by rw [bne, e8]; rfl
      have K8 := Lib.hid h8
      clear h8
      have HE : Hid (depX ph rr gn rv cn dy now = 8) := Lib.hid (by have j0 := inR_t H0.out; have j1 := inR_t H1.out; have j2 := inR_t H2.out; have k1 := K1.out; have k2 := K2.out; have k3 := K3.out; have k5 := K5.out; have k7 := K7.out; have k8 := K8.out; unfold depX; (repeat' split) <;> first | rfl | (exfalso; omega))
      refine wpAnyH_take (i := 6) (oi := { dst := some 53, op := Op.binOp BinOp.eql 3 (Operand.tmp 48) (Operand.tmp 52) 3, type := 4, pos := "may.go:44", after := #[{ on := 1, ground := Ground.data }, { on := 5, ground := Ground.data }], guard := none }) (v := ?_) rfl (by kernel_rfl) (by kernel_rfl) (by kernel_rfl) (fun _ _ _ h => h) (Or.inl ⟨by rfl, ?_⟩) hHeld ?_
      rotate_left
      · rintro Wx ⟨hS0, hS1, hS2⟩
        (try dsimp only at hS0 hS1 hS2)
        first | (go_simp; done) | (go_simp; with_reducible rfl)
      (try simp only [Act.put, List.setIfInBounds_toArray, List.set_cons_zero, List.set_cons_succ])
      refine wpAnyH_take (i := 7) (oi := { dst := some 46, op := Op.assign (Operand.tmp 53), type := 4, pos := "may.go:44", after := #[{ on := 6, ground := Ground.data }, { on := 5, ground := Ground.chain }], guard := none }) (v := ?_) rfl (by kernel_rfl) (by kernel_rfl) (by kernel_rfl) (fun _ _ _ h => h) (Or.inl ⟨by rfl, ?_⟩) hHeld ?_
      rotate_left
      · rintro Wx ⟨hS0, hS1, hS2⟩
        (try dsimp only at hS0 hS1 hS2)
        first | (go_simp; done) | (go_simp; with_reducible rfl)
      (try simp only [Act.put, List.setIfInBounds_toArray, List.set_cons_zero, List.set_cons_succ])
      refine wpAnyH_done (by kernel_rfl) ?_ _
      go_wp2
      go_ret
      exact ⟨by rw [HE.out]; rfl, HB1.out⟩
    have e8 : (rv == rr) = false := beq_eq_false_iff_ne.2 h8
    have g8 : (rv != rr) = true := by rw [bne, e8]; rfl
    have K8 := Lib.hid h8
    clear h8
    have HE : Hid (depX ph rr gn rv cn dy now = 0) := Lib.hid (by have j0 := inR_t H0.out; have j1 := inR_t H1.out; have j2 := inR_t H2.out; have k1 := K1.out; have k2 := K2.out; have k3 := K3.out; have k5 := K5.out; have k7 := K7.out; have k8 := K8.out; unfold depX; (repeat' split) <;> first | rfl | (exfalso; omega))
    refine wpAnyH_take (i := 6) (oi := { dst := some 53, op := Op.binOp BinOp.eql 3 (Operand.tmp 48) (Operand.tmp 52) 3, type := 4, pos := "may.go:44", after := #[{ on := 1, ground := Ground.data }, { on := 5, ground := Ground.data }], guard := none }) (v := ?_) rfl (by kernel_rfl) (by kernel_rfl) (by kernel_rfl) (fun _ _ _ h => h) (Or.inl ⟨by rfl, ?_⟩) hHeld ?_
    rotate_left
    · rintro Wx ⟨hS0, hS1, hS2⟩
      (try dsimp only at hS0 hS1 hS2)
      first | (go_simp; done) | (go_simp; with_reducible rfl)
    (try simp only [Act.put, List.setIfInBounds_toArray, List.set_cons_zero, List.set_cons_succ])
    refine wpAnyH_take (i := 7) (oi := { dst := some 46, op := Op.assign (Operand.tmp 53), type := 4, pos := "may.go:44", after := #[{ on := 6, ground := Ground.data }, { on := 5, ground := Ground.chain }], guard := none }) (v := ?_) rfl (by kernel_rfl) (by kernel_rfl) (by kernel_rfl) (fun _ _ _ h => h) (Or.inl ⟨by rfl, ?_⟩) hHeld ?_
    rotate_left
    · rintro Wx ⟨hS0, hS1, hS2⟩
      (try dsimp only at hS0 hS1 hS2)
      first | (go_simp; done) | (go_simp; with_reducible rfl)
    (try simp only [Act.put, List.setIfInBounds_toArray, List.set_cons_zero, List.set_cons_succ])
    refine wpAnyH_done (by kernel_rfl) ?_ _
    go_wp2
    go_ret
    exact ⟨by rw [HE.out]; rfl, HB1.out⟩
  have e7 : (ph == 2) = false := beq_eq_false_iff_ne.2 h7
  have g7 : (ph != 2) = true := by rw [bne, e7]; rfl
  have K7 := Lib.hid h7
  clear h7
  have HE : Hid (depX ph rr gn rv cn dy now = 7) := Lib.hid (by have j0 := inR_t H0.out; have j1 := inR_t H1.out; have j2 := inR_t H2.out; have k1 := K1.out; have k2 := K2.out; have k3 := K3.out; have k5 := K5.out; have k7 := K7.out; unfold depX; (repeat' split) <;> first | rfl | (exfalso; omega))
  go_wp2
  go_ret
  exact ⟨by rw [HE.out]; rfl, HB.out⟩
set_option maxRecDepth 100000 in
set_option maxHeartbeats 8000000 in
theorem pcheck_c (now : Int) (ph ac r0 r1 w0 w1 dl gn sw fl : Int) (p0 p1 : Bool) (cs : Array Value) (kd rv cn dy : Int) (ps : Bool) (os : Array Value) (w : World) (hcs : cs = stC ⟨ph, ac, r0, r1, w0, w1, p0, p1, dl, gn, sw, fl⟩) (hos : os = opC ⟨kd, rv, cn, dy, ps⟩) (hsl : ac = 0 ∨ ac = 1) (hph : 0 ≤ ph ∧ 0 ≤ sw) : Calls Try.prog 29 #[.agg cs, .agg os, .int .i64 now] w fun e w' => e = .returned (.int .i64 (chkX ph (revX r0 r1 ac) (revX r0 r1 (1 - ac)) gn sw kd rv cn dy now)) ∧ Below w.heap.size w w' := by
  have HC := Lib.hid hcs
  have HO := Lib.hid hos
  have HZC : Hid (cs.size = 12) := Lib.hid (by rw [hcs]; rfl)
  have HZO : Hid (os.size = 5) := Lib.hid (by rw [hos]; rfl)
  obtain ⟨v, hv⟩ : ∃ x, x = chkX ph (revX r0 r1 ac) (revX r0 r1 (1 - ac)) gn sw kd rv cn dy now := ⟨_, rfl⟩
  rw [← hv]
  have HV0 := Lib.hid hv
  have HDP : Hid (∀ V, Calls Try.prog 43 #[.agg cs, .agg os, .int .i64 now] V fun e w' => e = .returned (.int .i64 (depX ph (revX r0 r1 ac) gn rv cn dy now)) ∧ Below V.heap.size V w') := Lib.hid (fun V => pdeploy_c now ph ac r0 r1 w0 w1 dl gn sw fl p0 p1 cs kd rv cn dy ps os V hcs hos hsl)
  have HAB : Hid (∀ V, Calls Try.prog 44 #[.agg cs] V fun e w' => e = .returned (.int .i64 (abX ph sw)) ∧ Below V.heap.size V w') := Lib.hid (fun V => pabort_c ph ac r0 r1 w0 w1 dl gn sw fl p0 p1 cs V hcs)
  have HGT : Hid (∀ (p sl : Int) V, (sl = 0 ∨ sl = 1) → Calls Try.prog 45 #[.agg cs, .agg os, .int .i64 p, .int .i64 sl] V fun e w' => e = .returned (.int .i64 (gateX p (revX r0 r1 sl) ph rv)) ∧ Below V.heap.size V w') := Lib.hid (fun p sl V h => pgate_c p sl ph ac r0 r1 w0 w1 dl gn sw fl p0 p1 cs kd rv cn dy ps os V hcs hos h)
  have HPH := Lib.hid hph
  have HAC := Lib.hid hsl
  clear hcs hos hv hph hsl
  go_enter Try.func29, Try.ntmps29
  go_upto_region 1 with (fail)
  refine name_w (fun W => Rw W w.heap.size cs 38 ∧ Rw W (w.heap.size + 1) os 31 ∧ Below w.heap.size w W) ⟨(Rw.new _ _ _).alloc _, ?_, ((Below.refl _ _).alloc (Nat.le_refl _) _).alloc (by simp) _⟩ ?_
  · have h1 := Rw.new (w.alloc (.cells cs 38)) os 31
    rw [size_alloc] at h1
    exact h1
  rintro W ⟨hR, hP, hb⟩
  have HB := Lib.hid hb
  have HR := Lib.hid hR
  have HP := Lib.hid hP
  have c1 : W.cell? ⟨w.heap.size, 1, none⟩ = some (.int .i64 ac) := by rw [hR.cell 1, HC.out]; rfl
  have d0 : W.cell? ⟨w.heap.size + 1, 0, none⟩ = some (.int .i64 kd) := by rw [hP.cell 0, HO.out]; rfl
  clear hR hP hb
  by_cases h1 : kd = 1
  case pos =>
    subst h1
    have HE : Hid (chkX ph (revX r0 r1 ac) (revX r0 r1 (1 - ac)) gn sw 1 rv cn dy now = depX ph (revX r0 r1 ac) gn rv cn dy now) := Lib.hid (by have q := HPH.out; unfold chkX depX; (repeat' split) <;> first | rfl | (exfalso; omega))
    go_wp2_with (first | (refine wpList_load_row rfl 38 (.tmp 3) rfl w.heap.size rfl 38 cs (0, 0) _ HR.out Try.underlying38 rfl (by rw [HZC.out]; exact i12) ?_) | (refine wpList_load_row rfl 31 (.tmp 4) rfl (w.heap.size + 1) rfl 31 os (0, 0) _ HP.out Try.underlying31 rfl (by rw [HZO.out]; exact i5p) ?_) | (go_at_call 43; refine (HDP.out _).mono ?_; rintro e u1 ⟨rfl, hb⟩; have HB1 := Lib.hid (HB.out.trans (hb.mono HB.out.size)); clear hb))
    go_ret
    exact ⟨by rw [HV0.out, HE.out]; rfl, HB1.out⟩
  have e1 : (kd == 1) = false := beq_eq_false_iff_ne.2 h1
  have g1 : (kd != 1) = true := by rw [bne, e1]; rfl
  have K1 := Lib.hid h1
  clear h1
  by_cases h2 : kd = 2
  case pos =>
    subst h2
    have HE : Hid (chkX ph (revX r0 r1 ac) (revX r0 r1 (1 - ac)) gn sw 2 rv cn dy now = abX ph sw) := Lib.hid (by have q := HPH.out; unfold chkX abX; (repeat' split) <;> first | rfl | (exfalso; omega))
    go_wp2_with (first | (refine wpList_load_row rfl 38 (.tmp 3) rfl w.heap.size rfl 38 cs (0, 0) _ HR.out Try.underlying38 rfl (by rw [HZC.out]; exact i12) ?_) | (refine wpList_load_row rfl 31 (.tmp 4) rfl (w.heap.size + 1) rfl 31 os (0, 0) _ HP.out Try.underlying31 rfl (by rw [HZO.out]; exact i5p) ?_) | (go_at_call 44; refine (HAB.out _).mono ?_; rintro e u1 ⟨rfl, hb⟩; have HB1 := Lib.hid (HB.out.trans (hb.mono HB.out.size)); clear hb))
    go_ret
    exact ⟨by rw [HV0.out, HE.out]; rfl, HB1.out⟩
  have e2 : (kd == 2) = false := beq_eq_false_iff_ne.2 h2
  have g2 : (kd != 2) = true := by rw [bne, e2]; rfl
  have K2 := Lib.hid h2
  clear h2
  by_cases h4 : kd = 4
  case pos =>
    subst h4
    rcases HAC.out with rfl | rfl
    · have HE : Hid (chkX ph (revX r0 r1 0) (revX r0 r1 (1 - 0)) gn sw 4 rv cn dy now = gateX 2 (revX r0 r1 1) ph rv) := Lib.hid (by have q := HPH.out; rw [show ((1 : Int) - 0) = 1 from rfl]; unfold chkX gateX; (repeat' split) <;> first | rfl | (exfalso; omega))
      clear HAC
      go_wp2_with (first | (refine wpList_load_row rfl 38 (.tmp 3) rfl w.heap.size rfl 38 cs (0, 0) _ HR.out Try.underlying38 rfl (by rw [HZC.out]; exact i12) ?_) | (refine wpList_load_row rfl 31 (.tmp 4) rfl (w.heap.size + 1) rfl 31 os (0, 0) _ HP.out Try.underlying31 rfl (by rw [HZO.out]; exact i5p) ?_) | (go_at_call 45; refine (HGT.out _ _ _ (by simp)).mono ?_; rintro e u1 ⟨rfl, hb⟩; have HB1 := Lib.hid (HB.out.trans (hb.mono HB.out.size)); clear hb))
      go_ret
      exact ⟨by rw [HV0.out, HE.out]; rfl, HB1.out⟩
    · have HE : Hid (chkX ph (revX r0 r1 1) (revX r0 r1 (1 - 1)) gn sw 4 rv cn dy now = gateX 2 (revX r0 r1 0) ph rv) := Lib.hid (by have q := HPH.out; rw [show ((1 : Int) - 1) = 0 from rfl]; unfold chkX gateX; (repeat' split) <;> first | rfl | (exfalso; omega))
      clear HAC
      go_wp2_with (first | (refine wpList_load_row rfl 38 (.tmp 3) rfl w.heap.size rfl 38 cs (0, 0) _ HR.out Try.underlying38 rfl (by rw [HZC.out]; exact i12) ?_) | (refine wpList_load_row rfl 31 (.tmp 4) rfl (w.heap.size + 1) rfl 31 os (0, 0) _ HP.out Try.underlying31 rfl (by rw [HZO.out]; exact i5p) ?_) | (go_at_call 45; refine (HGT.out _ _ _ (by simp)).mono ?_; rintro e u1 ⟨rfl, hb⟩; have HB1 := Lib.hid (HB.out.trans (hb.mono HB.out.size)); clear hb))
      go_ret
      exact ⟨by rw [HV0.out, HE.out]; rfl, HB1.out⟩
  have e4 : (kd == 4) = false := beq_eq_false_iff_ne.2 h4
  have g4 : (kd != 4) = true := by rw [bne, e4]; rfl
  have K4 := Lib.hid h4
  clear h4
  by_cases h9 : kd = 9
  case pos =>
    subst h9
    rcases HAC.out with rfl | rfl
    · have HE : Hid (chkX ph (revX r0 r1 0) (revX r0 r1 (1 - 0)) gn sw 9 rv cn dy now = gateX 4 (revX r0 r1 0) ph rv) := Lib.hid (by have q := HPH.out; rw [show ((1 : Int) - 0) = 1 from rfl]; unfold chkX gateX; (repeat' split) <;> first | rfl | (exfalso; omega))
      clear HAC
      go_wp2_with (first | (refine wpList_load_row rfl 38 (.tmp 3) rfl w.heap.size rfl 38 cs (0, 0) _ HR.out Try.underlying38 rfl (by rw [HZC.out]; exact i12) ?_) | (refine wpList_load_row rfl 31 (.tmp 4) rfl (w.heap.size + 1) rfl 31 os (0, 0) _ HP.out Try.underlying31 rfl (by rw [HZO.out]; exact i5p) ?_) | (go_at_call 45; refine (HGT.out _ _ _ (by simp)).mono ?_; rintro e u1 ⟨rfl, hb⟩; have HB1 := Lib.hid (HB.out.trans (hb.mono HB.out.size)); clear hb))
      go_ret
      exact ⟨by rw [HV0.out, HE.out]; rfl, HB1.out⟩
    · have HE : Hid (chkX ph (revX r0 r1 1) (revX r0 r1 (1 - 1)) gn sw 9 rv cn dy now = gateX 4 (revX r0 r1 1) ph rv) := Lib.hid (by have q := HPH.out; rw [show ((1 : Int) - 1) = 0 from rfl]; unfold chkX gateX; (repeat' split) <;> first | rfl | (exfalso; omega))
      clear HAC
      go_wp2_with (first | (refine wpList_load_row rfl 38 (.tmp 3) rfl w.heap.size rfl 38 cs (0, 0) _ HR.out Try.underlying38 rfl (by rw [HZC.out]; exact i12) ?_) | (refine wpList_load_row rfl 31 (.tmp 4) rfl (w.heap.size + 1) rfl 31 os (0, 0) _ HP.out Try.underlying31 rfl (by rw [HZO.out]; exact i5p) ?_) | (go_at_call 45; refine (HGT.out _ _ _ (by simp)).mono ?_; rintro e u1 ⟨rfl, hb⟩; have HB1 := Lib.hid (HB.out.trans (hb.mono HB.out.size)); clear hb))
      go_ret
      exact ⟨by rw [HV0.out, HE.out]; rfl, HB1.out⟩
  have e9 : (kd == 9) = false := beq_eq_false_iff_ne.2 h9
  have g9 : (kd != 9) = true := by rw [bne, e9]; rfl
  have K9 := Lib.hid h9
  clear h9
  have HE : Hid (chkX ph (revX r0 r1 ac) (revX r0 r1 (1 - ac)) gn sw kd rv cn dy now = 6) := Lib.hid (by have k1 := K1.out; have k2 := K2.out; have k4 := K4.out; have k9 := K9.out; unfold chkX; rw [if_neg k2, if_pos ⟨k1, k4, k9⟩])
  go_wp2
  go_ret
  exact ⟨by rw [HV0.out, HE.out]; rfl, HB.out⟩
set_option maxRecDepth 100000 in
set_option maxHeartbeats 8000000 in
theorem precord_c (kd rv cn dy : Int) (ps : Bool) (os : Array Value) (w : World) (hos : os = opC ⟨kd, rv, cn, dy, ps⟩) : Calls Try.prog 31 #[.agg os] w fun e w' => e = .returned (recV (recO ⟨kd, rv, cn, dy, ps⟩)) ∧ Below w.heap.size w w' := by
  have HO := Lib.hid hos
  clear hos
  go_enter Try.func31, Try.ntmps31
  go_upto_region 1 with (fail)
  obtain ⟨B, hBe⟩ : ∃ B, B = w.heap.size + 1 := ⟨_, rfl⟩
  rw [← hBe]
  refine name_w (fun W => Rw W w.heap.size os 31 ∧ Rw W B (recC ⟨0, 0, 0, 0, 0, 0, false, zeroS⟩) 72 ∧ Below w.heap.size w W) ⟨(Rw.new _ _ _).alloc _, ?_, ((Below.refl _ _).alloc (Nat.le_refl _) _).alloc (by simp) _⟩ ?_
  · have h1 := Rw.new (w.alloc (.cells os 31)) (recC ⟨0, 0, 0, 0, 0, 0, false, zeroS⟩) 72
    rw [size_alloc, ← hBe] at h1
    exact h1
  rintro W ⟨hP, hZ, hb⟩
  have HB := Lib.hid hb
  have HZB := Lib.hid hZ
  have HBB : Hid (w.heap.size ≤ B) := Lib.hid (by omega)
  have d0 : W.cell? ⟨w.heap.size, 0, none⟩ = some (.int .i64 kd) := by rw [hP.cell 0, HO.out]; rfl
  have d1 : W.cell? ⟨w.heap.size, 1, none⟩ = some (.int .i64 rv) := by rw [hP.cell 1, HO.out]; rfl
  have d2 : W.cell? ⟨w.heap.size, 2, none⟩ = some (.int .i64 cn) := by rw [hP.cell 2, HO.out]; rfl
  have d3 : W.cell? ⟨w.heap.size, 3, none⟩ = some (.int .i64 dy) := by rw [hP.cell 3, HO.out]; rfl
  have d4 : W.cell? ⟨w.heap.size, 4, none⟩ = some (.bool ps) := by rw [hP.cell 4, HO.out]; rfl
  clear hP hZ hb hBe
  by_cases h1 : kd = 1
  case pos =>
    subst h1
    have HE : Hid (recO ⟨1, rv, cn, dy, ps⟩ = ⟨1, rv, cn, dy, 0, 0, false, zeroS⟩) := Lib.hid rfl
    go_wp2_with (refine wpList_plain rfl fun _ hK => wp_store_row 72 (.tmp 2) (.tmp 18) rfl B (recC ⟨1, rv, cn, dy, 0, 0, false, zeroS⟩) rfl rfl 72 _ HZB.out i19 rfl (recC_one _) (hK _ _ ?_); clear hK)
    refine bodyPost_ret (results_cell_row rfl _ _ B 72 (recC ⟨1, rv, cn, dy, 0, 0, false, zeroS⟩) (0, 0) _ rfl (HZB.out.set (recC ⟨1, rv, cn, dy, 0, 0, false, zeroS⟩)) Try.underlying72 rfl i19) rfl ?_
    exact ⟨by rw [HE.out]; rfl, below_setRow HB.out HBB.out (recC ⟨1, rv, cn, dy, 0, 0, false, zeroS⟩)⟩
  have e1 : (kd == 1) = false := beq_eq_false_iff_ne.2 h1
  by_cases h2 : kd = 4
  case pos =>
    subst h2
    have HE : Hid (recO ⟨4, rv, cn, dy, ps⟩ = ⟨4, 0, 0, 0, 0, 0, ps, zeroS⟩) := Lib.hid rfl
    clear h1
    go_wp2_with (refine wpList_plain rfl fun _ hK => wp_store_row 72 (.tmp 2) (.tmp 26) rfl B (recC ⟨4, 0, 0, 0, 0, 0, ps, zeroS⟩) rfl rfl 72 _ HZB.out i19 rfl (recC_one _) (hK _ _ ?_); clear hK)
    refine bodyPost_ret (results_cell_row rfl _ _ B 72 (recC ⟨4, 0, 0, 0, 0, 0, ps, zeroS⟩) (0, 0) _ rfl (HZB.out.set (recC ⟨4, 0, 0, 0, 0, 0, ps, zeroS⟩)) Try.underlying72 rfl i19) rfl ?_
    exact ⟨by rw [HE.out]; rfl, below_setRow HB.out HBB.out (recC ⟨4, 0, 0, 0, 0, 0, ps, zeroS⟩)⟩
  have e2 : (kd == 4) = false := beq_eq_false_iff_ne.2 h2
  by_cases h3 : kd = 9
  case pos =>
    subst h3
    have HE : Hid (recO ⟨9, rv, cn, dy, ps⟩ = ⟨9, 0, 0, 0, 0, 0, ps, zeroS⟩) := Lib.hid rfl
    clear h1 h2
    go_wp2_with (refine wpList_plain rfl fun _ hK => wp_store_row 72 (.tmp 2) (.tmp 26) rfl B (recC ⟨9, 0, 0, 0, 0, 0, ps, zeroS⟩) rfl rfl 72 _ HZB.out i19 rfl (recC_one _) (hK _ _ ?_); clear hK)
    refine bodyPost_ret (results_cell_row rfl _ _ B 72 (recC ⟨9, 0, 0, 0, 0, 0, ps, zeroS⟩) (0, 0) _ rfl (HZB.out.set (recC ⟨9, 0, 0, 0, 0, 0, ps, zeroS⟩)) Try.underlying72 rfl i19) rfl ?_
    exact ⟨by rw [HE.out]; rfl, below_setRow HB.out HBB.out (recC ⟨9, 0, 0, 0, 0, 0, ps, zeroS⟩)⟩
  have e3 : (kd == 9) = false := beq_eq_false_iff_ne.2 h3
  have HE : Hid (recO ⟨kd, rv, cn, dy, ps⟩ = ⟨kd, 0, 0, 0, 0, 0, false, zeroS⟩) := Lib.hid (by unfold recO; rw [if_neg h1, if_neg (by simp [h2, h3])])
  clear h1 h2 h3
  go_wp2_with (refine wpList_plain rfl fun _ hK => wp_store_row 72 (.tmp 2) (.tmp 7) rfl B (recC ⟨kd, 0, 0, 0, 0, 0, false, zeroS⟩) rfl rfl 72 _ HZB.out i19 rfl (recC_one _) (hK _ _ ?_); clear hK)
  refine bodyPost_ret (results_cell_row rfl _ _ B 72 (recC ⟨kd, 0, 0, 0, 0, 0, false, zeroS⟩) (0, 0) _ rfl (HZB.out.set (recC ⟨kd, 0, 0, 0, 0, 0, false, zeroS⟩)) Try.underlying72 rfl i19) rfl ?_
  exact ⟨by rw [HE.out]; rfl, below_setRow HB.out HBB.out (recC ⟨kd, 0, 0, 0, 0, 0, false, zeroS⟩)⟩
theorem precord_any (o : Oc) (w : World) : Calls Try.prog 31 #[opV o] w fun e w' => e = .returned (recV (recO o)) ∧ Below w.heap.size w w' := by
  obtain ⟨kd, rv, cn, dy, ps⟩ := o
  exact precord_c kd rv cn dy ps _ w rfl
theorem pkgm_is : PkgM where
  check := fun s o now W hr _ _ _ => by
    obtain ⟨ph, ac, r0, r1, w0, w1, p0, p1, dl, gn, sw, fl⟩ := s
    obtain ⟨kd, rv, cn, dy, ps⟩ := o
    have hac : ac = 0 ∨ ac = 1 := (right_in hr).1
    have hb : 0 ≤ ph ∧ 0 ≤ sw := by
      have h := hr
      unfold rightS at h
      rcases hac with rfl | rfl
      · simp only [if_true] at h
        have h := of_decide_eq_true h
        exact ⟨h.1.1, h.1.2.2.2.2.2.2.1⟩
      · rw [if_neg (by simp), if_pos rfl] at h
        have h := of_decide_eq_true h
        exact ⟨h.1.1, h.1.2.2.2.2.2.2.1⟩
    have key : chkS ⟨ph, ac, r0, r1, w0, w1, p0, p1, dl, gn, sw, fl⟩ ⟨kd, rv, cn, dy, ps⟩ now = chkX ph (revX r0 r1 ac) (revX r0 r1 (1 - ac)) gn sw kd rv cn dy now := by
      rcases hac with rfl | rfl <;> rfl
    rw [key]
    exact pcheck_c now ph ac r0 r1 w0 w1 dl gn sw fl p0 p1 _ kd rv cn dy ps _ W rfl rfl hac hb
  record := fun o W _ => precord_any o W
end Go.Proofs.Ytchaeidmjoelnaa
