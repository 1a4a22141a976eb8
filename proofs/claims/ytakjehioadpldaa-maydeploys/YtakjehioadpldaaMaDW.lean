/-
  switchback's MayDeploys: a deploy may be done just ahead of a switch, at a tick and a generation that are not at their end, and not of the active slot's revision; how many and with what delay plays no part. For every input the law returns true, and each argument reads afterwards as it read before. No condition beside the row's own.
-/
import Derived.Test.YtakjehioadpldaaLift
import Derived.Deep.CutRange
namespace Go.Proofs.Ytakjehioadpldaa.mayDeploys
open Go.Proofs.Ytakjehioadpldaa
open Go.ChangeShapes Go.WideShapes Go.ChangeAt Go.RowKit
set_option linter.unusedVariables false

theorem dep_x (ph ra ro gn sw rev now : Int) (h1 : ¬ rev < 1) (h2 : ¬ 1073741824 < rev) : chkX ph ra ro gn sw 1 rev 1 0 now = chkX ph ra ro gn sw 1 rev 32 65536 now ∧ (chkX ph ra ro gn sw 1 rev 1 0 now = 0 ↔ ph ≤ 2 ∧ now < 1073741824 ∧ gn ≤ 1048574 ∧ rev ≠ ra) := by
  have e : ∀ cn dy : Int, ¬ (cn < 1 ∨ 32 < cn ∨ dy < 0 ∨ 65536 < dy) → chkX ph ra ro gn sw 1 rev cn dy now = if 1073741823 < now ∨ 1048575 ≤ gn then 9 else if 2 < ph then 7 else if rev = ra then 8 else 0 := by
    intro cn dy h
    unfold chkX
    rw [if_neg (by decide), if_neg (by decide), if_neg (by omega), if_neg (by decide), if_neg (by decide), if_neg h]
  rw [e 1 0 (by decide), e 32 65536 (by decide)]
  refine ⟨rfl, ?_⟩
  split
  · constructor
    · intro h; cases h
    · omega
  · split
    · constructor
      · intro h; cases h
      · omega
    · split
      · constructor
        · intro h; cases h
        · omega
      · constructor
        · intro _; omega
        · intro _; rfl
set_option maxRecDepth 100000 in
set_option maxHeartbeats 8000000 in
theorem walk_0 (hp : PkgM) (ph r0 r1 w0 w1 dl gn sw fl rev now : Int) (p0 p1 : Bool) (w : World) (hs : FitsS ⟨ph, 0, r0, r1, w0, w1, p0, p1, dl, gn, sw, fl⟩) (hr : Fits rev) (hn : Fits now) : Calls Try.prog 7 #[stV ⟨ph, 0, r0, r1, w0, w1, p0, p1, dl, gn, sw, fl⟩, .int .i64 rev, .int .i64 now] w (Holds w) := by
  have HAW : Hid (∀ W, Calls Try.prog 8 #[] W fun e w' => e = .returned (.bool true) ∧ Below W.heap.size W w') := Lib.hid (awake_any hp)
  obtain ⟨rt, hrt⟩ : ∃ b, b = rightS ⟨ph, 0, r0, r1, w0, w1, p0, p1, dl, gn, sw, fl⟩ := ⟨_, rfl⟩
  have HMR : Hid (∀ W, Calls Try.prog 9 #[.agg (stC ⟨ph, 0, r0, r1, w0, w1, p0, p1, dl, gn, sw, fl⟩)] W fun e w' => e = .returned (.bool rt) ∧ Below W.heap.size W w') := Lib.hid (fun W => by rw [hrt]; exact mright_any ⟨ph, 0, r0, r1, w0, w1, p0, p1, dl, gn, sw, fl⟩ W)
  have fz : ∀ a b : Int, 0 ≤ a ∧ a ≤ 1073741824 → 0 ≤ b ∧ b ≤ 1073741824 → ∀ x, FitsO ⟨1, rev, a, b, x⟩ := fun a b h1 h2 x => ⟨show Fits 1 from fits_small (by decide) (by decide), hr, fits_small h1.1 h1.2, fits_small h2.1 h2.2⟩
  have HC0 : Hid (rt = true → ∀ W, Calls Try.prog 10 #[.agg (stC ⟨ph, 0, r0, r1, w0, w1, p0, p1, dl, gn, sw, fl⟩), .agg (opC ⟨1, rev, 1, 0, false⟩), .int .i64 now] W fun e w' => e = .returned (.int .i64 (chkX ph r0 r1 gn sw 1 rev 1 0 now)) ∧ Below W.heap.size W w') := Lib.hid (fun h W => hp.check ⟨ph, 0, r0, r1, w0, w1, p0, p1, dl, gn, sw, fl⟩ ⟨1, rev, 1, 0, false⟩ now W (by rw [← hrt]; exact h) hs (fz _ _ (by decide) (by decide) _) hn)
  have HC1 : Hid (rt = true → ∀ W, Calls Try.prog 10 #[.agg (stC ⟨ph, 0, r0, r1, w0, w1, p0, p1, dl, gn, sw, fl⟩), .agg (opC ⟨1, rev, 32, 65536, true⟩), .int .i64 now] W fun e w' => e = .returned (.int .i64 (chkX ph r0 r1 gn sw 1 rev 32 65536 now)) ∧ Below W.heap.size W w') := Lib.hid (fun h W => hp.check ⟨ph, 0, r0, r1, w0, w1, p0, p1, dl, gn, sw, fl⟩ ⟨1, rev, 32, 65536, true⟩ now W (by rw [← hrt]; exact h) hs (fz _ _ (by decide) (by decide) _) hn)
  obtain ⟨cs, hcs⟩ : ∃ c, c = stC ⟨ph, 0, r0, r1, w0, w1, p0, p1, dl, gn, sw, fl⟩ := ⟨_, rfl⟩
  have HE_cs := Lib.hid hcs
  have HZ_cs : Hid (cs.size = 12) := Lib.hid (by rw [hcs]; rfl)
  have H1_cs : Hid (cs.all (·.oneCell') = true) := Lib.hid (by rw [hcs]; exact stC_one _)
  rw [← hcs] at HMR HC0 HC1
  unfold stV
  rw [← hcs]
  clear hcs fz hp hrt
  go_enter Try.func7, Try.ntmps7
  go_upto_region 1 with (fail)
  refine name_w (fun W => Rw W w.heap.size cs 25 ∧ Below w.heap.size w W) ⟨Rw.new _ _ _, (Below.refl _ _).alloc (Nat.le_refl _) _⟩ ?_
  rintro u0 ⟨h0, h1⟩
  have R_A_0 := Lib.hid h0
  have BT0 := Lib.hid h1
  clear h0 h1
  go_wp2_with fail
  refine (HAW.out _).mono ?_
  rintro e u1 ⟨rfl, hb⟩
  have R_A_1 := Lib.hid (R_A_0.out.under hb R_A_0.out.lt)
  have BT1 := Lib.hid (BT0.out.trans (hb.mono BT0.out.size))
  clear hb BT0 R_A_0
  go_wp2_with (first | (refine wpList_load_any (by rfl) 25 (.tmp 3) rfl w.heap.size rfl 25 cs (0, 0) _ R_A_1.out Try.underlying25 rfl (by rw [HZ_cs.out]; exact i12) ?_))
  refine (HMR.out _).mono ?_
  rintro e u2 ⟨rfl, hb⟩
  have R_A_2 := Lib.hid (R_A_1.out.under hb R_A_1.out.lt)
  have BT2 := Lib.hid (BT1.out.trans (hb.mono BT1.out.size))
  clear hb BT1 R_A_1
  clear HMR
  cases rt with
  | false =>
    clear HC0 HC1
    go_wp2_with fail
    refine (HAW.out _).mono ?_
    rintro e u3 ⟨rfl, hb⟩
    have R_A_3 := Lib.hid (R_A_2.out.under hb R_A_2.out.lt)
    have BT3 := Lib.hid (BT2.out.trans (hb.mono BT2.out.size))
    clear hb BT2 R_A_2
    go_wp2_with fail
    go_ret
    exact ⟨rfl, BT3.out⟩
  | true =>
    have HD0 := Lib.hid (HC0.out rfl)
    have HD1 := Lib.hid (HC1.out rfl)
    clear HC0 HC1
    by_cases h1 : rev < 1
    case pos =>
      have e1 : decide (rev < 1) = true := decide_eq_true h1
      clear h1 HD0 HD1
      go_wp2_with fail
      refine (HAW.out _).mono ?_
      rintro e u3 ⟨rfl, hb⟩
      have R_A_3 := Lib.hid (R_A_2.out.under hb R_A_2.out.lt)
      have BT3 := Lib.hid (BT2.out.trans (hb.mono BT2.out.size))
      clear hb BT2 R_A_2
      go_wp2_with fail
      go_ret
      exact ⟨rfl, BT3.out⟩
    have e1 : decide (rev < 1) = false := decide_eq_false h1
    by_cases h2 : 1073741824 < rev
    case pos =>
      have e2 : decide (1073741824 < rev) = true := decide_eq_true h2
      clear h1 h2 HD0 HD1
      go_wp2_with fail
      refine (HAW.out _).mono ?_
      rintro e u3 ⟨rfl, hb⟩
      have R_A_3 := Lib.hid (R_A_2.out.under hb R_A_2.out.lt)
      have BT3 := Lib.hid (BT2.out.trans (hb.mono BT2.out.size))
      clear hb BT2 R_A_2
      go_wp2_with fail
      go_ret
      exact ⟨rfl, BT3.out⟩
    have e2 : decide (1073741824 < rev) = false := decide_eq_false h2
    obtain ⟨hx1, hx2⟩ := dep_x ph r0 r1 gn sw rev now h1 h2
    obtain ⟨v, hv⟩ : ∃ x, x = chkX ph r0 r1 gn sw 1 rev 1 0 now := ⟨_, rfl⟩
    rw [← hx1, ← hv] at HD1
    rw [← hv] at HD0 hx2
    have HX := Lib.hid hx2
    clear hx1 hx2 hv h1 h2
    go_wp2_with (first | (refine wpList_load_any (by rfl) 25 (.tmp 3) rfl w.heap.size rfl 25 cs (0, 0) _ R_A_2.out Try.underlying25 rfl (by rw [HZ_cs.out]; exact i12) ?_))
    refine (HD0.out _).mono ?_
    rintro e u3 ⟨rfl, hb⟩
    have R_A_3 := Lib.hid (R_A_2.out.under hb R_A_2.out.lt)
    have BT3 := Lib.hid (BT2.out.trans (hb.mono BT2.out.size))
    clear hb BT2 R_A_2
    clear HD0
    go_wp2_with (first | (refine wpList_load_any (by rfl) 25 (.tmp 3) rfl w.heap.size rfl 25 cs (0, 0) _ R_A_3.out Try.underlying25 rfl (by rw [HZ_cs.out]; exact i12) ?_))
    refine (HD1.out _).mono ?_
    rintro e u4 ⟨rfl, hb⟩
    have R_A_4 := Lib.hid (R_A_3.out.under hb R_A_3.out.lt)
    have BT4 := Lib.hid (BT3.out.trans (hb.mono BT3.out.size))
    clear hb BT3 R_A_3
    clear HD1 e1 e2
    go_upto_region 5 with (fail)
    have m0 : u4.cell? ⟨w.heap.size, 0, none⟩ = some (.int .i64 ph) := by rw [R_A_4.out.cell 0, HE_cs.out]; rfl
    have m1 : u4.cell? ⟨w.heap.size, 1, none⟩ = some (.int .i64 0) := by rw [R_A_4.out.cell 1, HE_cs.out]; rfl
    have m2 : u4.cell? ⟨w.heap.size, 2, none⟩ = some (.int .i64 r0) := by rw [R_A_4.out.cell 2, HE_cs.out]; rfl
    have m9 : u4.cell? ⟨w.heap.size, 9, none⟩ = some (.int .i64 gn) := by rw [R_A_4.out.cell 9, HE_cs.out]; rfl
    by_cases q0 : ph ≤ 2
    case neg =>
      have a0 : decide (ph ≤ 2) = false := decide_eq_false q0
      have b0 : (v == 0) = false := beq_eq_false_iff_ne.2 (fun h => by have := HX.out.1 h; omega)
      clear q0 
      go_wp2
      go_ret
      exact ⟨rfl, BT4.out⟩
    have a0 : decide (ph ≤ 2) = true := decide_eq_true q0
    by_cases q1 : now < 1073741824
    case neg =>
      have a1 : decide (now < 1073741824) = false := decide_eq_false q1
      have b0 : (v == 0) = false := beq_eq_false_iff_ne.2 (fun h => by have := HX.out.1 h; omega)
      clear q1 q0
      go_wp2
      go_ret
      exact ⟨rfl, BT4.out⟩
    have a1 : decide (now < 1073741824) = true := decide_eq_true q1
    by_cases q2 : gn ≤ 1048574
    case neg =>
      have a2 : decide (gn ≤ 1048574) = false := decide_eq_false q2
      have b0 : (v == 0) = false := beq_eq_false_iff_ne.2 (fun h => by have := HX.out.1 h; omega)
      clear q2 q0 q1
      go_wp2
      go_ret
      exact ⟨rfl, BT4.out⟩
    have a2 : decide (gn ≤ 1048574) = true := decide_eq_true q2
    by_cases q3 : rev = r0
    case pos =>
      have a3 : (rev == r0) = true := by rw [q3]; exact beq_self_eq_true _
      have a4 : (rev != r0) = false := by rw [bne, a3]; rfl
      have b0 : (v == 0) = false := beq_eq_false_iff_ne.2 (fun h => by have := HX.out.1 h; omega)
      clear q3 q0 q1 q2
      go_wp2
      go_ret
      exact ⟨rfl, BT4.out⟩
    have a3 : (rev == r0) = false := beq_eq_false_iff_ne.2 q3
    have a4 : (rev != r0) = true := by rw [bne, a3]; rfl
    obtain rfl : v = 0 := HX.out.2 ⟨q0, q1, q2, q3⟩
    clear q3 q0 q1 q2
    go_wp2
    go_ret
    exact ⟨rfl, BT4.out⟩
set_option maxRecDepth 100000 in
set_option maxHeartbeats 8000000 in
theorem walk_1 (hp : PkgM) (ph r0 r1 w0 w1 dl gn sw fl rev now : Int) (p0 p1 : Bool) (w : World) (hs : FitsS ⟨ph, 1, r0, r1, w0, w1, p0, p1, dl, gn, sw, fl⟩) (hr : Fits rev) (hn : Fits now) : Calls Try.prog 7 #[stV ⟨ph, 1, r0, r1, w0, w1, p0, p1, dl, gn, sw, fl⟩, .int .i64 rev, .int .i64 now] w (Holds w) := by
  have HAW : Hid (∀ W, Calls Try.prog 8 #[] W fun e w' => e = .returned (.bool true) ∧ Below W.heap.size W w') := Lib.hid (awake_any hp)
  obtain ⟨rt, hrt⟩ : ∃ b, b = rightS ⟨ph, 1, r0, r1, w0, w1, p0, p1, dl, gn, sw, fl⟩ := ⟨_, rfl⟩
  have HMR : Hid (∀ W, Calls Try.prog 9 #[.agg (stC ⟨ph, 1, r0, r1, w0, w1, p0, p1, dl, gn, sw, fl⟩)] W fun e w' => e = .returned (.bool rt) ∧ Below W.heap.size W w') := Lib.hid (fun W => by rw [hrt]; exact mright_any ⟨ph, 1, r0, r1, w0, w1, p0, p1, dl, gn, sw, fl⟩ W)
  have fz : ∀ a b : Int, 0 ≤ a ∧ a ≤ 1073741824 → 0 ≤ b ∧ b ≤ 1073741824 → ∀ x, FitsO ⟨1, rev, a, b, x⟩ := fun a b h1 h2 x => ⟨show Fits 1 from fits_small (by decide) (by decide), hr, fits_small h1.1 h1.2, fits_small h2.1 h2.2⟩
  have HC0 : Hid (rt = true → ∀ W, Calls Try.prog 10 #[.agg (stC ⟨ph, 1, r0, r1, w0, w1, p0, p1, dl, gn, sw, fl⟩), .agg (opC ⟨1, rev, 1, 0, false⟩), .int .i64 now] W fun e w' => e = .returned (.int .i64 (chkX ph r1 r0 gn sw 1 rev 1 0 now)) ∧ Below W.heap.size W w') := Lib.hid (fun h W => hp.check ⟨ph, 1, r0, r1, w0, w1, p0, p1, dl, gn, sw, fl⟩ ⟨1, rev, 1, 0, false⟩ now W (by rw [← hrt]; exact h) hs (fz _ _ (by decide) (by decide) _) hn)
  have HC1 : Hid (rt = true → ∀ W, Calls Try.prog 10 #[.agg (stC ⟨ph, 1, r0, r1, w0, w1, p0, p1, dl, gn, sw, fl⟩), .agg (opC ⟨1, rev, 32, 65536, true⟩), .int .i64 now] W fun e w' => e = .returned (.int .i64 (chkX ph r1 r0 gn sw 1 rev 32 65536 now)) ∧ Below W.heap.size W w') := Lib.hid (fun h W => hp.check ⟨ph, 1, r0, r1, w0, w1, p0, p1, dl, gn, sw, fl⟩ ⟨1, rev, 32, 65536, true⟩ now W (by rw [← hrt]; exact h) hs (fz _ _ (by decide) (by decide) _) hn)
  obtain ⟨cs, hcs⟩ : ∃ c, c = stC ⟨ph, 1, r0, r1, w0, w1, p0, p1, dl, gn, sw, fl⟩ := ⟨_, rfl⟩
  have HE_cs := Lib.hid hcs
  have HZ_cs : Hid (cs.size = 12) := Lib.hid (by rw [hcs]; rfl)
  have H1_cs : Hid (cs.all (·.oneCell') = true) := Lib.hid (by rw [hcs]; exact stC_one _)
  rw [← hcs] at HMR HC0 HC1
  unfold stV
  rw [← hcs]
  clear hcs fz hp hrt
  go_enter Try.func7, Try.ntmps7
  go_upto_region 1 with (fail)
  refine name_w (fun W => Rw W w.heap.size cs 25 ∧ Below w.heap.size w W) ⟨Rw.new _ _ _, (Below.refl _ _).alloc (Nat.le_refl _) _⟩ ?_
  rintro u0 ⟨h0, h1⟩
  have R_A_0 := Lib.hid h0
  have BT0 := Lib.hid h1
  clear h0 h1
  go_wp2_with fail
  refine (HAW.out _).mono ?_
  rintro e u1 ⟨rfl, hb⟩
  have R_A_1 := Lib.hid (R_A_0.out.under hb R_A_0.out.lt)
  have BT1 := Lib.hid (BT0.out.trans (hb.mono BT0.out.size))
  clear hb BT0 R_A_0
  go_wp2_with (first | (refine wpList_load_any (by rfl) 25 (.tmp 3) rfl w.heap.size rfl 25 cs (0, 0) _ R_A_1.out Try.underlying25 rfl (by rw [HZ_cs.out]; exact i12) ?_))
  refine (HMR.out _).mono ?_
  rintro e u2 ⟨rfl, hb⟩
  have R_A_2 := Lib.hid (R_A_1.out.under hb R_A_1.out.lt)
  have BT2 := Lib.hid (BT1.out.trans (hb.mono BT1.out.size))
  clear hb BT1 R_A_1
  clear HMR
  cases rt with
  | false =>
    clear HC0 HC1
    go_wp2_with fail
    refine (HAW.out _).mono ?_
    rintro e u3 ⟨rfl, hb⟩
    have R_A_3 := Lib.hid (R_A_2.out.under hb R_A_2.out.lt)
    have BT3 := Lib.hid (BT2.out.trans (hb.mono BT2.out.size))
    clear hb BT2 R_A_2
    go_wp2_with fail
    go_ret
    exact ⟨rfl, BT3.out⟩
  | true =>
    have HD0 := Lib.hid (HC0.out rfl)
    have HD1 := Lib.hid (HC1.out rfl)
    clear HC0 HC1
    by_cases h1 : rev < 1
    case pos =>
      have e1 : decide (rev < 1) = true := decide_eq_true h1
      clear h1 HD0 HD1
      go_wp2_with fail
      refine (HAW.out _).mono ?_
      rintro e u3 ⟨rfl, hb⟩
      have R_A_3 := Lib.hid (R_A_2.out.under hb R_A_2.out.lt)
      have BT3 := Lib.hid (BT2.out.trans (hb.mono BT2.out.size))
      clear hb BT2 R_A_2
      go_wp2_with fail
      go_ret
      exact ⟨rfl, BT3.out⟩
    have e1 : decide (rev < 1) = false := decide_eq_false h1
    by_cases h2 : 1073741824 < rev
    case pos =>
      have e2 : decide (1073741824 < rev) = true := decide_eq_true h2
      clear h1 h2 HD0 HD1
      go_wp2_with fail
      refine (HAW.out _).mono ?_
      rintro e u3 ⟨rfl, hb⟩
      have R_A_3 := Lib.hid (R_A_2.out.under hb R_A_2.out.lt)
      have BT3 := Lib.hid (BT2.out.trans (hb.mono BT2.out.size))
      clear hb BT2 R_A_2
      go_wp2_with fail
      go_ret
      exact ⟨rfl, BT3.out⟩
    have e2 : decide (1073741824 < rev) = false := decide_eq_false h2
    obtain ⟨hx1, hx2⟩ := dep_x ph r1 r0 gn sw rev now h1 h2
    obtain ⟨v, hv⟩ : ∃ x, x = chkX ph r1 r0 gn sw 1 rev 1 0 now := ⟨_, rfl⟩
    rw [← hx1, ← hv] at HD1
    rw [← hv] at HD0 hx2
    have HX := Lib.hid hx2
    clear hx1 hx2 hv h1 h2
    go_wp2_with (first | (refine wpList_load_any (by rfl) 25 (.tmp 3) rfl w.heap.size rfl 25 cs (0, 0) _ R_A_2.out Try.underlying25 rfl (by rw [HZ_cs.out]; exact i12) ?_))
    refine (HD0.out _).mono ?_
    rintro e u3 ⟨rfl, hb⟩
    have R_A_3 := Lib.hid (R_A_2.out.under hb R_A_2.out.lt)
    have BT3 := Lib.hid (BT2.out.trans (hb.mono BT2.out.size))
    clear hb BT2 R_A_2
    clear HD0
    go_wp2_with (first | (refine wpList_load_any (by rfl) 25 (.tmp 3) rfl w.heap.size rfl 25 cs (0, 0) _ R_A_3.out Try.underlying25 rfl (by rw [HZ_cs.out]; exact i12) ?_))
    refine (HD1.out _).mono ?_
    rintro e u4 ⟨rfl, hb⟩
    have R_A_4 := Lib.hid (R_A_3.out.under hb R_A_3.out.lt)
    have BT4 := Lib.hid (BT3.out.trans (hb.mono BT3.out.size))
    clear hb BT3 R_A_3
    clear HD1 e1 e2
    go_upto_region 5 with (fail)
    have m0 : u4.cell? ⟨w.heap.size, 0, none⟩ = some (.int .i64 ph) := by rw [R_A_4.out.cell 0, HE_cs.out]; rfl
    have m1 : u4.cell? ⟨w.heap.size, 1, none⟩ = some (.int .i64 1) := by rw [R_A_4.out.cell 1, HE_cs.out]; rfl
    have m3 : u4.cell? ⟨w.heap.size, 3, none⟩ = some (.int .i64 r1) := by rw [R_A_4.out.cell 3, HE_cs.out]; rfl
    have m9 : u4.cell? ⟨w.heap.size, 9, none⟩ = some (.int .i64 gn) := by rw [R_A_4.out.cell 9, HE_cs.out]; rfl
    by_cases q0 : ph ≤ 2
    case neg =>
      have a0 : decide (ph ≤ 2) = false := decide_eq_false q0
      have b0 : (v == 0) = false := beq_eq_false_iff_ne.2 (fun h => by have := HX.out.1 h; omega)
      clear q0 
      go_wp2
      go_ret
      exact ⟨rfl, BT4.out⟩
    have a0 : decide (ph ≤ 2) = true := decide_eq_true q0
    by_cases q1 : now < 1073741824
    case neg =>
      have a1 : decide (now < 1073741824) = false := decide_eq_false q1
      have b0 : (v == 0) = false := beq_eq_false_iff_ne.2 (fun h => by have := HX.out.1 h; omega)
      clear q1 q0
      go_wp2
      go_ret
      exact ⟨rfl, BT4.out⟩
    have a1 : decide (now < 1073741824) = true := decide_eq_true q1
    by_cases q2 : gn ≤ 1048574
    case neg =>
      have a2 : decide (gn ≤ 1048574) = false := decide_eq_false q2
      have b0 : (v == 0) = false := beq_eq_false_iff_ne.2 (fun h => by have := HX.out.1 h; omega)
      clear q2 q0 q1
      go_wp2
      go_ret
      exact ⟨rfl, BT4.out⟩
    have a2 : decide (gn ≤ 1048574) = true := decide_eq_true q2
    by_cases q3 : rev = r1
    case pos =>
      have a3 : (rev == r1) = true := by rw [q3]; exact beq_self_eq_true _
      have a4 : (rev != r1) = false := by rw [bne, a3]; rfl
      have b0 : (v == 0) = false := beq_eq_false_iff_ne.2 (fun h => by have := HX.out.1 h; omega)
      clear q3 q0 q1 q2
      go_wp2
      go_ret
      exact ⟨rfl, BT4.out⟩
    have a3 : (rev == r1) = false := beq_eq_false_iff_ne.2 q3
    have a4 : (rev != r1) = true := by rw [bne, a3]; rfl
    obtain rfl : v = 0 := HX.out.2 ⟨q0, q1, q2, q3⟩
    clear q3 q0 q1 q2
    go_wp2
    go_ret
    exact ⟨rfl, BT4.out⟩
set_option maxRecDepth 100000 in
set_option maxHeartbeats 8000000 in
theorem out_slot (hp : PkgM) (s : St) (rev now : Int) (w : World) (hr : rightS s = false) : Calls Try.prog 7 #[stV s, .int .i64 rev, .int .i64 now] w (Holds w) := by
  have HAW : Hid (∀ W, Calls Try.prog 8 #[] W fun e w' => e = .returned (.bool true) ∧ Below W.heap.size W w') := Lib.hid (awake_any hp)
  have HMR : Hid (∀ W, Calls Try.prog 9 #[.agg (stC s)] W fun e w' => e = .returned (.bool false) ∧ Below W.heap.size W w') := Lib.hid (fun W => by rw [← hr]; exact mright_any s W)
  obtain ⟨cs, hcs⟩ : ∃ c, c = stC s := ⟨_, rfl⟩
  have HE_cs := Lib.hid hcs
  have HZ_cs : Hid (cs.size = 12) := Lib.hid (by rw [hcs]; rfl)
  have H1_cs : Hid (cs.all (·.oneCell') = true) := Lib.hid (by rw [hcs]; exact stC_one _)
  rw [← hcs] at HMR
  unfold stV
  rw [← hcs]
  clear hcs hp hr
  go_enter Try.func7, Try.ntmps7
  go_upto_region 1 with (fail)
  refine name_w (fun W => Rw W w.heap.size cs 25 ∧ Below w.heap.size w W) ⟨Rw.new _ _ _, (Below.refl _ _).alloc (Nat.le_refl _) _⟩ ?_
  rintro u0 ⟨h0, h1⟩
  have R_A_0 := Lib.hid h0
  have BT0 := Lib.hid h1
  clear h0 h1
  go_wp2_with fail
  refine (HAW.out _).mono ?_
  rintro e u1 ⟨rfl, hb⟩
  have R_A_1 := Lib.hid (R_A_0.out.under hb R_A_0.out.lt)
  have BT1 := Lib.hid (BT0.out.trans (hb.mono BT0.out.size))
  clear hb BT0 R_A_0
  go_wp2_with (first | (refine wpList_load_any (by rfl) 25 (.tmp 3) rfl w.heap.size rfl 25 cs (0, 0) _ R_A_1.out Try.underlying25 rfl (by rw [HZ_cs.out]; exact i12) ?_))
  refine (HMR.out _).mono ?_
  rintro e u2 ⟨rfl, hb⟩
  have R_A_2 := Lib.hid (R_A_1.out.under hb R_A_1.out.lt)
  have BT2 := Lib.hid (BT1.out.trans (hb.mono BT1.out.size))
  clear hb BT1 R_A_1
  clear HMR
  go_wp2_with fail
  refine (HAW.out _).mono ?_
  rintro e u3 ⟨rfl, hb⟩
  have R_A_3 := Lib.hid (R_A_2.out.under hb R_A_2.out.lt)
  have BT3 := Lib.hid (BT2.out.trans (hb.mono BT2.out.size))
  clear hb BT2 R_A_2
  go_wp2_with fail
  go_ret
  exact ⟨rfl, BT3.out⟩
theorem walk (hp : PkgM) (s : St) (rev now : Int) (w : World) (hs : FitsS s) (hr : Fits rev) (hn : Fits now) : Calls Try.prog 7 #[stV s, .int .i64 rev, .int .i64 now] w (Holds w) := by
  cases h : rightS s with
  | false => exact out_slot hp s rev now w h
  | true =>
    obtain ⟨ph, ac, r0, r1, w0, w1, p0, p1, dl, gn, sw, fl⟩ := s
    rcases (right_in h).1 with h0 | h0
    · obtain rfl : ac = 0 := h0
      exact walk_0 hp ph r0 r1 w0 w1 dl gn sw fl rev now p0 p1 w hs hr hn
    · obtain rfl : ac = 1 := h0
      exact walk_1 hp ph r0 r1 w0 w1 dl gn sw fl rev now p0 p1 w hs hr hn
end Go.Proofs.Ytakjehioadpldaa.mayDeploys
