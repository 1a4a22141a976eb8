/-
  switchback's PlanNext: what is to be done, and its record, is what the document's own function says, in every state that may be. For every input the law returns true, and each argument reads afterwards as it read before. No condition beside the row's own.
-/
import Derived.Test.YtmodacieflcheaaLift
namespace Go.Proofs.Ytmodacieflcheaa.planNext
open Go.Proofs.Ytmodacieflcheaa
open Go.ChangeShapes Go.WideShapes Go.ChangeAt Go.RowKit
set_option linter.unusedVariables false

theorem fits_next {s : St} {v : Vw} {now : Int} (hr : rightS s = true) : FitsR (nextS s v now).2 := by
  have hi := right_in hr
  have f0 : ∀ k : Int, 0 ≤ k ∧ k ≤ 20 → FitsR (rcK k 0) := fun k hk => fits_rcK hk (by decide)
  have f1 : ∀ k : Int, 0 ≤ k ∧ k ≤ 20 → FitsR (rcK k s.gn) := fun k hk => fits_rcK hk (by omega)
  have f2 : ∀ k : Int, 0 ≤ k ∧ k ≤ 20 → FitsR (rcK k (s.gn + 1)) := fun k hk => fits_rcK hk (by omega)
  unfold nextS nextX
  (repeat' split) <;> first | exact f0 _ (by decide) | exact f1 _ (by decide) | exact f2 _ (by decide)
set_option maxRecDepth 100000 in
set_option maxHeartbeats 8000000 in
theorem walk (hp : PkgPl) (s : St) (v : Vw) (now : Int) (w : World) (hs : FitsS s) (hv : FitsV v) (hn : Fits now) : Calls Try.prog 3 #[stV s, vwV v, .int .i64 now] w (Holds w) := by
  have HAW : Hid (∀ W, Calls Try.prog 9 #[] W fun e w' => e = .returned (.bool true) ∧ Below W.heap.size W w') := Lib.hid (awake_any hp)
  obtain ⟨rt, hrt⟩ : ∃ b, b = rightS s := ⟨_, rfl⟩
  obtain ⟨x, hx⟩ : ∃ x, x = nextS s v now := ⟨_, rfl⟩
  have HMR : Hid (∀ W, Calls Try.prog 10 #[.agg (stC s)] W fun e w' => e = .returned (.bool rt) ∧ Below W.heap.size W w') := Lib.hid (fun W => by rw [hrt]; exact mright_any s W)
  have HC0 : Hid (rt = true → ∀ W, Calls Try.prog 11 #[.agg (stC s), .agg (vwC v), .int .i64 now] W fun e w' => e = .returned (.tuple #[.int .i64 x.1, .agg (recC x.2)]) ∧ Below W.heap.size W w') := Lib.hid (fun h W => by rw [hx]; exact hp.next s v now W (by rw [← hrt]; exact h) hv hn)
  have HC1 : Hid (rt = true → ∀ W, Calls Try.prog 12 #[.agg (stC s), .agg (vwC v), .int .i64 now] W fun e w' => e = .returned (.tuple #[.int .i64 x.1, .agg (recC x.2)]) ∧ Below W.heap.size W w') := Lib.hid (fun h W => by rw [hx]; exact mnext_any s v now W (by rw [← hrt]; exact h) hn)
  have HEQ : Hid (rt = true → ∀ W, (Op.equalIn 10000 31 (.agg (recC x.2)) (.agg (recC x.2))).run Try.prog W = .ok true W) := Lib.hid (fun h => by rw [hx]; exact eq31 (fits_next (by rw [← hrt]; exact h)))
  obtain ⟨cs, hcs⟩ : ∃ c, c = stC s := ⟨_, rfl⟩
  have HE_cs := Lib.hid hcs
  have HZ_cs : Hid (cs.size = 12) := Lib.hid (by rw [hcs]; rfl)
  have H1_cs : Hid (cs.all (·.oneCell') = true) := Lib.hid (by rw [hcs]; exact stC_one _)
  obtain ⟨vs, hvs⟩ : ∃ c, c = vwC v := ⟨_, rfl⟩
  have HE_vs := Lib.hid hvs
  have HZ_vs : Hid (vs.size = 4) := Lib.hid (by rw [hvs]; rfl)
  have H1_vs : Hid (vs.all (·.oneCell') = true) := Lib.hid (by rw [hvs]; exact vwC_one _)
  obtain ⟨rc, hrc⟩ : ∃ c, c = recC x.2 := ⟨_, rfl⟩
  have HE_rc := Lib.hid hrc
  have HZ_rc : Hid (rc.size = 19) := Lib.hid (by rw [hrc]; rfl)
  have H1_rc : Hid (rc.all (·.oneCell') = true) := Lib.hid (by rw [hrc]; exact recC_one _)
  obtain ⟨a, ha⟩ : ∃ a, a = x.1 := ⟨_, rfl⟩
  rw [← hcs] at HMR HC0 HC1
  rw [← hvs, ← hrc, ← ha] at HC0 HC1
  rw [← hrc] at HEQ
  unfold stV vwV
  rw [← hcs, ← hvs]
  clear hcs hvs hrc ha hp hrt hx hv hn hs
  go_enter Try.func3, Try.ntmps3
  go_upto_region 1 with (fail)
  refine name_w (fun W => Rw W w.heap.size cs 25 ∧ Rw W (w.heap.size + 1) vs 27 ∧ Below w.heap.size w W) ⟨(Rw.new _ _ _).alloc _, ?_, ((Below.refl _ _).alloc (Nat.le_refl _) _).alloc (by simp) _⟩ ?_
  · have h1 := Rw.new (w.alloc (.cells cs 25)) vs 27
    rw [size_alloc] at h1
    exact h1
  rintro u0 ⟨h0, h1, h2⟩
  have R_A_0 := Lib.hid h0
  have R_B_0 := Lib.hid h1
  have BT0 := Lib.hid h2
  clear h0 h1 h2
  go_wp2_with fail
  refine (HAW.out _).mono ?_
  rintro e u1 ⟨rfl, hb⟩
  have R_A_1 := Lib.hid (R_A_0.out.under hb R_A_0.out.lt)
  have R_B_1 := Lib.hid (R_B_0.out.under hb R_B_0.out.lt)
  have BT1 := Lib.hid (BT0.out.trans (hb.mono BT0.out.size))
  clear hb BT0 R_A_0 R_B_0
  go_wp2_with (first | (refine wpList_load_any (by rfl) 25 (.tmp 3) rfl w.heap.size rfl 25 cs (0, 0) _ R_A_1.out Try.underlying25 rfl (by rw [HZ_cs.out]; exact i12) ?_))
  refine (HMR.out _).mono ?_
  rintro e u2 ⟨rfl, hb⟩
  have R_A_2 := Lib.hid (R_A_1.out.under hb R_A_1.out.lt)
  have R_B_2 := Lib.hid (R_B_1.out.under hb R_B_1.out.lt)
  have BT2 := Lib.hid (BT1.out.trans (hb.mono BT1.out.size))
  clear hb BT1 R_A_1 R_B_1
  clear HMR
  cases rt with
  | false =>
    clear HC0 HC1 HEQ
    go_wp2_with fail
    refine (HAW.out _).mono ?_
    rintro e u3 ⟨rfl, hb⟩
    have R_A_3 := Lib.hid (R_A_2.out.under hb R_A_2.out.lt)
    have R_B_3 := Lib.hid (R_B_2.out.under hb R_B_2.out.lt)
    have BT3 := Lib.hid (BT2.out.trans (hb.mono BT2.out.size))
    clear hb BT2 R_A_2 R_B_2
    go_wp2_with fail
    go_ret
    exact ⟨rfl, BT3.out⟩
  | true =>
    have HD0 := Lib.hid (HC0.out rfl)
    have HD1 := Lib.hid (HC1.out rfl)
    have eqR := HEQ.out rfl
    clear HC0 HC1 HEQ
    go_wp2_with (first | (refine wpList_load_any (by rfl) 25 (.tmp 3) rfl w.heap.size rfl 25 cs (0, 0) _ R_A_2.out Try.underlying25 rfl (by rw [HZ_cs.out]; exact i12) ?_) | (refine wpList_load_any (by rfl) 27 (.tmp 4) rfl (w.heap.size + 1) rfl 27 vs (0, 0) _ R_B_2.out Try.underlying27 rfl (by rw [HZ_vs.out]; exact iv4) ?_))
    refine (HD0.out _).mono ?_
    rintro e u3 ⟨rfl, hb⟩
    have R_A_3 := Lib.hid (R_A_2.out.under hb R_A_2.out.lt)
    have R_B_3 := Lib.hid (R_B_2.out.under hb R_B_2.out.lt)
    have BT3 := Lib.hid (BT2.out.trans (hb.mono BT2.out.size))
    clear hb BT2 R_A_2 R_B_2
    clear HD0
    go_upto_region 4 with (first | (refine wpList_plain rfl fun _ hK => wp_store_row 31 (.tmp 8) (.tmp 25) rfl u3.heap.size rc rfl rfl 31 _ (Rw.new u3 _ 31) (by rw [HZ_rc.out]; exact i19) (by rw [HZ_rc.out]; rfl) (H1_rc.out) (hK _ _ ?_); clear hK))
    obtain ⟨Q, hY⟩ : ∃ X, X = u3.heap.size := ⟨_, rfl⟩
    rw [← hY]
    refine name_w (fun W => Rw W w.heap.size cs 25 ∧ Rw W (w.heap.size + 1) vs 27 ∧ Rw W Q rc 31 ∧ Below w.heap.size w W) ?_ ?_
    · have bb := below_setRow ((Below.refl u3.heap.size u3).alloc (Nat.le_refl _) (.cells (recC (rcK 0 0)) 31)) (Nat.le_refl _) (b := u3.heap.size) rc
      rw [hY]
      exact ⟨R_A_3.out.under bb R_A_3.out.lt, R_B_3.out.under bb R_B_3.out.lt, (Rw.new u3 _ 31).set rc, BT3.out.trans (bb.mono BT3.out.size)⟩
    clear hY BT3 R_A_3 R_B_3
    rintro u4 ⟨h0, h1, h2, h3⟩
    have R_A_4 := Lib.hid h0
    have R_B_4 := Lib.hid h1
    have R_Q_4 := Lib.hid h2
    have BT4 := Lib.hid h3
    clear h0 h1 h2 h3
    go_wp2_with (first | (refine wpList_load_any (by rfl) 25 (.tmp 3) rfl w.heap.size rfl 25 cs (0, 0) _ R_A_4.out Try.underlying25 rfl (by rw [HZ_cs.out]; exact i12) ?_) | (refine wpList_load_any (by rfl) 27 (.tmp 4) rfl (w.heap.size + 1) rfl 27 vs (0, 0) _ R_B_4.out Try.underlying27 rfl (by rw [HZ_vs.out]; exact iv4) ?_))
    refine (HD1.out _).mono ?_
    rintro e u5 ⟨rfl, hb⟩
    have R_A_5 := Lib.hid (R_A_4.out.under hb R_A_4.out.lt)
    have R_B_5 := Lib.hid (R_B_4.out.under hb R_B_4.out.lt)
    have R_Q_5 := Lib.hid (R_Q_4.out.under hb R_Q_4.out.lt)
    have BT5 := Lib.hid (BT4.out.trans (hb.mono BT4.out.size))
    clear hb BT4 R_A_4 R_B_4 R_Q_4
    clear HD1
    go_upto_region 5 with (first | (refine wpList_plain rfl fun _ hK => wp_store_row 31 (.tmp 10) (.tmp 32) rfl u5.heap.size rc rfl rfl 31 _ (Rw.new u5 _ 31) (by rw [HZ_rc.out]; exact i19) (by rw [HZ_rc.out]; rfl) (H1_rc.out) (hK _ _ ?_); clear hK))
    obtain ⟨R, hY⟩ : ∃ X, X = u5.heap.size := ⟨_, rfl⟩
    rw [← hY]
    refine name_w (fun W => Rw W w.heap.size cs 25 ∧ Rw W (w.heap.size + 1) vs 27 ∧ Rw W Q rc 31 ∧ Rw W R rc 31 ∧ Below w.heap.size w W) ?_ ?_
    · have bb := below_setRow ((Below.refl u5.heap.size u5).alloc (Nat.le_refl _) (.cells (recC (rcK 0 0)) 31)) (Nat.le_refl _) (b := u5.heap.size) rc
      rw [hY]
      exact ⟨R_A_5.out.under bb R_A_5.out.lt, R_B_5.out.under bb R_B_5.out.lt, R_Q_5.out.under bb R_Q_5.out.lt, (Rw.new u5 _ 31).set rc, BT5.out.trans (bb.mono BT5.out.size)⟩
    clear hY BT5 R_A_5 R_B_5 R_Q_5
    rintro u6 ⟨h0, h1, h2, h3, h4⟩
    have R_A_6 := Lib.hid h0
    have R_B_6 := Lib.hid h1
    have R_Q_6 := Lib.hid h2
    have R_R_6 := Lib.hid h3
    have BT6 := Lib.hid h4
    clear h0 h1 h2 h3 h4
    go_wp2_with (first | (refine wpList_load_any (by rfl) 31 (.tmp 8) rfl Q rfl 31 rc (0, 0) _ R_Q_6.out Try.underlying31 rfl (by rw [HZ_rc.out]; exact i19) ?_) | (refine wpList_load_any (by rfl) 31 (.tmp 10) rfl R rfl 31 rc (0, 0) _ R_R_6.out Try.underlying31 rfl (by rw [HZ_rc.out]; exact i19) ?_))
    go_ret
    exact ⟨rfl, BT6.out⟩
end Go.Proofs.Ytmodacieflcheaa.planNext
