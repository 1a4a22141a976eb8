/-
  The document's own Next.
-/
import Derived.Test.YtchaeidmjoelnaaGreatPlnA
import Derived.Deep.Cut
namespace Go.Proofs.YtchaeidmjoelnaaGreat
open Go.RowKit

set_option maxRecDepth 100000 in
set_option maxHeartbeats 8000000 in
theorem mnext_c (ac oc ph r0 r1 w0 w1 dl gn sw fl now : Int) (p0 p1 fo : Bool) (ls : Int) (cs vs : Array Value) (w : World) (hoc : wrap64 (1 - ac) = oc) (hcs : cs = stC ⟨ph, ac, r0, r1, w0, w1, p0, p1, dl, gn, sw, fl⟩) (hz : vs.size = 4) (hg : 0 ≤ gn ∧ gn ≤ 1048576)
    (hf : ∀ W, Calls Tryz.prog 55 #[.agg cs, .agg vs, .int .i64 oc] W fun e w' => e = .returned (.bool fo) ∧ Below W.heap.size W w') (hl : ∀ W, Calls Tryz.prog 56 #[.int .i64 now, .int .i64 fl] W fun e w' => e = .returned (.int .i64 ls) ∧ W = w') :
    Calls Tryz.prog 34 #[.agg cs, .agg vs, .int .i64 now] w fun e w' => e = .returned (.tuple #[.int .i64 (nextX ph sw gn dl fo ls).1, .agg (recC (nextX ph sw gn dl fo ls).2)]) ∧ Below w.heap.size w w' := by
  have HC := Lib.hid hcs
  have HZ := Lib.hid hz
  have HFU := Lib.hid hf
  have HLS := Lib.hid hl
  have HZC : Hid (cs.size = 12) := Lib.hid (by rw [hcs]; rfl)
  have HG := Lib.hid hg
  clear hcs hz hf hl hg
  go_enter Tryz.func34, Tryz.ntmps34
  go_upto_region 1 with (fail)
  refine name_w (fun W => Rw W w.heap.size cs 33 ∧ Rw W (w.heap.size + 1) vs 57 ∧ Rw W (w.heap.size + 1 + 1) (recC (rcK 0 0)) 85 ∧ Below w.heap.size w W) ?_ ?_
  · exact three_rows w cs vs (recC (rcK 0 0))
  rintro V ⟨v1, v2, v3, v4⟩
  have R1 := Lib.hid v1
  have R2 := Lib.hid v2
  have R3 := Lib.hid v3
  have R4 := Lib.hid v4
  clear v1 v2 v3 v4
  go_upto_region 2 with (refine wpList_plain rfl fun _ hK => wp_store_row 85 (.tmp 8) (.tmp 10) rfl V.heap.size (recC (rcK 0 0)) rfl rfl 85 _ (Rw.new V _ 85) i19 rfl (recC_one _) (hK _ _ ?_); clear hK)
  obtain ⟨Bz, hBz⟩ : ∃ X, X = V.heap.size := ⟨_, rfl⟩
  rw [← hBz]
  have HBZ : Hid ((w.heap.size + 1 + 1) < Bz) := Lib.hid (by rw [hBz]; exact R3.out.lt)
  refine name_w (fun W => Rw W w.heap.size cs 33 ∧ Rw W (w.heap.size + 1) vs 57 ∧ Rw W (w.heap.size + 1 + 1) (recC (rcK 0 0)) 85 ∧ Rw W Bz (recC (rcK 0 0)) 85 ∧ Below w.heap.size w W) ?_ ?_
  · have bb := below_setRow ((Below.refl V.heap.size V).alloc (Nat.le_refl _) (.cells (recC (rcK 0 0)) 85)) (Nat.le_refl _) (b := V.heap.size) (recC (rcK 0 0))
    rw [hBz]
    exact ⟨R1.out.under bb R1.out.lt, R2.out.under bb R2.out.lt, R3.out.under bb R3.out.lt, (Rw.new V _ 85).set _, R4.out.trans (bb.mono R4.out.size)⟩
  clear hBz R1 R2 R3 R4
  rintro W0 ⟨hR, hP, h7, h8, hb⟩
  have HR0 := Lib.hid hR
  have HP0 := Lib.hid hP
  have H70 := Lib.hid h7
  have H80 := Lib.hid h8
  have HB0 := Lib.hid hb
  have c1 : W0.cell? ⟨w.heap.size, 1, none⟩ = some (.int .i64 ac) := by rw [hR.cell 1, HC.out]; rfl
  clear hR hP h7 h8 hb
  go_wp2_with (first | (refine wpList_load_row rfl 33 (.tmp 3) rfl w.heap.size rfl 33 cs (0, 0) _ HR0.out Tryz.underlying33 rfl (by rw [HZC.out]; exact i12) ?_) | (refine wpList_load_row rfl 57 (.tmp 4) rfl (w.heap.size + 1) rfl 57 vs (0, 0) _ HP0.out Tryz.underlying57 rfl (by rw [HZ.out]; exact iv4) ?_))
  refine (HFU.out _).mono ?_
  rintro e W ⟨rfl, hb⟩
  as_aux_lemma =>
    have hR := HR0.out.under hb HR0.out.lt
    have H7 := Lib.hid (H70.out.under hb H70.out.lt)
    have H8 := Lib.hid (H80.out.under hb H80.out.lt)
    have HB := Lib.hid (HB0.out.trans (hb.mono HB0.out.size))
    have c0 : W.cell? ⟨w.heap.size, 0, none⟩ = some (.int .i64 ph) := by rw [hR.cell 0, HC.out]; rfl
    have c8 : W.cell? ⟨w.heap.size, 8, none⟩ = some (.int .i64 dl) := by rw [hR.cell 8, HC.out]; rfl
    have c9 : W.cell? ⟨w.heap.size, 9, none⟩ = some (.int .i64 gn) := by rw [hR.cell 9, HC.out]; rfl
    have c10 : W.cell? ⟨w.heap.size, 10, none⟩ = some (.int .i64 sw) := by rw [hR.cell 10, HC.out]; rfl
    have c11 : W.cell? ⟨w.heap.size, 11, none⟩ = some (.int .i64 fl) := by rw [hR.cell 11, HC.out]; rfl
    have HLQ : Hid (∀ n, Calls Tryz.prog 56 #[.int .i64 now, .int .i64 fl] (W.drewN n) fun e w' => e = .returned (.int .i64 ls) ∧ ∃ m, w' = W.drewN m) := Lib.hid (fun n => Calls.quiet_of_same ((HLS.out _).mono fun _ _ ⟨he, hw⟩ => ⟨he, hw.symm⟩))
    have ew : IntKind.i64.wrap (gn + 1) = gn + 1 := IntWalk.i64_in _ (by have := HG.out; omega)
    clear hR hb HR0 HP0 H70 H80 HB0 c1 HFU
    by_cases h1 : ph = 1
    case pos =>
      as_aux_lemma =>
        subst h1
        cases fo with
        | true =>
          as_aux_lemma =>
            have HE : Hid (nextX 1 sw gn dl true ls = (1, (rcK 3 0))) := Lib.hid (by unfold nextX; (repeat' split) <;> first | rfl | (exfalso; simp_all; done) | (exfalso; omega) | (exfalso; simp_all; omega))
            go_wp2_with (refine wpList_plain rfl fun _ hK => wp_store_row 85 (.tmp 7) (.tmp 23) rfl (w.heap.size + 1 + 1) (recC (rcK 3 0)) rfl rfl 85 _ H7.out i19 rfl (recC_one _) (hK _ _ ?_); clear hK)
            refine bodyPost_ret (results_tmp_cell rfl _ _ (w.heap.size + 1 + 1) 85 (recC (rcK 3 0)) (0, 0) _ rfl (H7.out.set (recC (rcK 3 0))) Tryz.underlying85 rfl i19) rfl ?_
            exact ⟨by rw [HE.out]; rfl, below_setRow HB.out (by omega) (recC (rcK 3 0))⟩
        | false =>
          as_aux_lemma =>
            go_upto_region 15 with (fail)
            go_quiet (first | (go_at_call 56; exact HLQ.out _))
            go_upto_region 17 with (fail)
            refine name_w (fun Z => Rw Z (w.heap.size + 1 + 1) (recC (rcK 0 0)) 85 ∧ Rw Z Bz (recC (rcK 0 0)) 85 ∧ Below w.heap.size w Z) ⟨Rw.drewN H7.out _, Rw.drewN H8.out _, HB.out.trans (below_drewN _ _ _)⟩ ?_
            clear c0 c8 c9 c10 c11 H7 H8 HB
            rintro W ⟨h7, h8, hb⟩
            have H7 := Lib.hid h7
            have H8 := Lib.hid h8
            have HB := Lib.hid hb
            clear h7 h8 hb
            as_aux_lemma =>
              as_aux_lemma =>
                have HE : Hid (nextX 1 sw gn dl false ls = (0, (rcK 0 0))) := Lib.hid (by unfold nextX; (repeat' split) <;> first | rfl | (exfalso; simp_all; done) | (exfalso; omega) | (exfalso; simp_all; omega))
                go_upto_region 17 with (fail)
                have H8d := Lib.hid (Rw.drew H8.out)
                refine wp_region_held_drew (S := fun wx => True ∧ Rw wx Bz (recC (rcK 0 0)) 85) (by kernel_rfl) ⟨trivial, H8d.out⟩ (fun hHeld => ?_)
                refine wpAnyH_take (i := 0) (oi := { dst := some 70, op := Op.load 85 (Operand.tmp 8), type := 85, pos := "ref.go:43", after := #[{ on := 1, ground := Ground.gcOnly Departure.lateStores }], guard := none }) (v := .agg (recC (rcK 0 0))) rfl (by kernel_rfl) (by kernel_rfl) (by kernel_rfl) (fun _ _ _ h => h) (Or.inl ⟨by rfl, fun W hS => exec_load_row 85 (.tmp 8) rfl Bz rfl 85 (recC (rcK 0 0)) (0, 0) _ hS.2 Tryz.underlying85 rfl i19⟩) hHeld ?_
                (try simp only [Act.put, List.setIfInBounds_toArray, List.set_cons_zero, List.set_cons_succ])
                refine wpAnyH_take (i := 1) (oi := { dst := some 6, op := Op.assign (Operand.const (Value.int IntKind.i64 0)), type := 3, pos := "ref.go:43", after := #[{ on := 0, ground := Ground.textOnly Departure.lateStores }], guard := none }) (v := ?_) rfl (by kernel_rfl) (by kernel_rfl) (by kernel_rfl) (fun _ _ _ h => h) (Or.inl ⟨by rfl, ?_⟩) hHeld ?_
                rotate_left
                · intro w hSw
                  (try dsimp only at hSw)
                  first | (go_simp; done) | (go_simp; with_reducible rfl)
                (try simp only [Act.put, List.setIfInBounds_toArray, List.set_cons_zero, List.set_cons_succ])
                refine wpAnyH_ready (rs := [2]) (by kernel_rfl) (by simp) ?_
                refine AllReadyH.cons (o := { dst := none, op := Op.store 85 (Operand.tmp 7) (Operand.tmp 70), type := 0, pos := "ref.go:43", after := #[{ on := 0, ground := Ground.data }, { on := 1, ground := Ground.chain }, { on := 0, ground := Ground.phase }, { on := 1, ground := Ground.phase }], guard := none }) rfl (fun K hK => ?_) AllReadyH.nil
                rw [if_pos (by rfl)]
                refine wp_store_row 85 (.tmp 7) (.tmp 70) rfl (w.heap.size + 1 + 1) (recC (rcK 0 0)) rfl rfl 85 _ (Rw.drew H7.out) i19 rfl (recC_one _) ?_
                clear hHeld
                refine hK.out _ _ ?_ (fun hHeld => ?_)
                · exact ⟨trivial, (setRow_block W.drew (w.heap.size + 1 + 1) Bz (recC (rcK 0 0)) (by have := HBZ.out; omega)).trans H8d.out⟩
                clear hK K
                (try simp only [Act.put])
                refine wpAnyH_done (by kernel_rfl) ?_ _
                clear hHeld
                go_wp2
                refine bodyPost_ret (results_tmp_cell rfl _ _ (w.heap.size + 1 + 1) 85 (recC (rcK 0 0)) (0, 0) _ rfl ((Rw.drew H7.out).set (recC (rcK 0 0))) Tryz.underlying85 rfl i19) rfl ?_
                exact ⟨by rw [HE.out]; rfl, below_setRow (below_drew HB.out) (by omega) (recC (rcK 0 0))⟩
    have e1 : (ph == 1) = false := beq_eq_false_iff_ne.2 h1
    have K1 := Lib.hid h1
    clear h1
    as_aux_lemma =>
      by_cases h2 : ph = 3 ∨ ph = 6
      case pos =>
        as_aux_lemma =>
          have K2 := Lib.hid h2
          clear h2
          go_upto_region 5 with (fail)
          go_cut [31] from 17 (fun v W' => v = .bool true ∧ W = W')
          case first =>
            rcases K2.out with rfl | rfl
            · go_wp2
              go_meet
              exact ⟨rfl, rfl⟩
            · go_wp2
              go_meet
              exact ⟨rfl, rfl⟩
          case rest =>
            obtain ⟨rfl, rfl⟩ := hcut
            clear c0
            by_cases h3 : sw = 2
            case pos =>
              as_aux_lemma =>
                subst h3
                as_aux_lemma =>
                  have HE : Hid (nextX ph 2 gn dl fo ls = (5, (rcK 0 0))) := Lib.hid (by have k1 := K1.out; have k2 := K2.out; unfold nextX; (repeat' split) <;> first | rfl | (exfalso; simp_all; done) | (exfalso; omega) | (exfalso; simp_all; omega))
                  go_upto_region 7 with (fail)
                  have y9 : W.drew.cell? ⟨w.heap.size, 9, none⟩ = some (.int .i64 gn) := c9
                  have H8d := Lib.hid (Rw.drew H8.out)
                  refine wp_region_held_drew (S := fun wx => wx.cell? ⟨w.heap.size, 9, none⟩ = some (.int .i64 gn) ∧ Rw wx Bz (recC (rcK 0 0)) 85) (by kernel_rfl) ⟨y9, H8d.out⟩ (fun hHeld => ?_)
                  refine wpAnyH_take (i := 0) (oi := { dst := some 35, op := Op.load 85 (Operand.tmp 8), type := 85, pos := "ref.go:27", after := #[{ on := 1, ground := Ground.gcOnly Departure.lateStores }], guard := none }) (v := .agg (recC (rcK 0 0))) rfl (by kernel_rfl) (by kernel_rfl) (by kernel_rfl) (fun _ _ _ h => h) (Or.inl ⟨by rfl, fun W hS => exec_load_row 85 (.tmp 8) rfl Bz rfl 85 (recC (rcK 0 0)) (0, 0) _ hS.2 Tryz.underlying85 rfl i19⟩) hHeld ?_
                  (try simp only [Act.put, List.setIfInBounds_toArray, List.set_cons_zero, List.set_cons_succ])
                  refine wpAnyH_take (i := 1) (oi := { dst := some 6, op := Op.assign (Operand.const (Value.int IntKind.i64 5)), type := 3, pos := "ref.go:27", after := #[{ on := 0, ground := Ground.textOnly Departure.lateStores }], guard := none }) (v := ?_) rfl (by kernel_rfl) (by kernel_rfl) (by kernel_rfl) (fun _ _ _ h => h) (Or.inl ⟨by rfl, ?_⟩) hHeld ?_
                  rotate_left
                  · intro w hSw
                    (try dsimp only at hSw)
                    first | (go_simp; done) | (go_simp; with_reducible rfl)
                  (try simp only [Act.put, List.setIfInBounds_toArray, List.set_cons_zero, List.set_cons_succ])
                  refine wpAnyH_ready (rs := [2]) (by kernel_rfl) (by simp) ?_
                  refine AllReadyH.cons (o := { dst := none, op := Op.store 85 (Operand.tmp 7) (Operand.tmp 35), type := 0, pos := "ref.go:27", after := #[{ on := 0, ground := Ground.data }, { on := 1, ground := Ground.chain }, { on := 0, ground := Ground.phase }, { on := 1, ground := Ground.phase }], guard := none }) rfl (fun K hK => ?_) AllReadyH.nil
                  rw [if_pos (by rfl)]
                  refine wp_store_row 85 (.tmp 7) (.tmp 35) rfl (w.heap.size + 1 + 1) (recC (rcK 0 0)) rfl rfl 85 _ (Rw.drew H7.out) i19 rfl (recC_one _) ?_
                  clear hHeld
                  refine hK.out _ _ ?_ (fun hHeld => ?_)
                  · exact ⟨(World.cell?_of_block (a := ⟨w.heap.size, 9, none⟩) (setRow_block W.drew (w.heap.size + 1 + 1) w.heap.size (recC (rcK 0 0)) (by omega))).trans y9, (setRow_block W.drew (w.heap.size + 1 + 1) Bz (recC (rcK 0 0)) (by have := HBZ.out; omega)).trans H8d.out⟩
                  clear hK K
                  (try simp only [Act.put])
                  refine wpAnyH_done (by kernel_rfl) ?_ _
                  clear hHeld
                  go_wp2
                  refine bodyPost_ret (results_tmp_cell rfl _ _ (w.heap.size + 1 + 1) 85 (recC (rcK 0 0)) (0, 0) _ rfl ((Rw.drew H7.out).set (recC (rcK 0 0))) Tryz.underlying85 rfl i19) rfl ?_
                  exact ⟨by rw [HE.out]; rfl, below_setRow (below_drew HB.out) (by omega) (recC (rcK 0 0))⟩
            have e3 : (sw == 2) = false := beq_eq_false_iff_ne.2 h3
            have K3 := Lib.hid h3
            clear h3
            as_aux_lemma =>
              by_cases h4 : sw = 1
              case pos =>
                as_aux_lemma =>
                  subst h4
                  cases fo with
                  | true =>
                    as_aux_lemma =>
                      have HE : Hid (nextX ph 1 gn dl true ls = (3, (rcK 6 gn))) := Lib.hid (by have k1 := K1.out; have k2 := K2.out; have k3 := K3.out; unfold nextX; (repeat' split) <;> first | rfl | (exfalso; simp_all; done) | (exfalso; omega) | (exfalso; simp_all; omega))
                      go_upto_region 10 with (fail)
                      have y9 : W.drew.cell? ⟨w.heap.size, 9, none⟩ = some (.int .i64 gn) := c9
                      have H8d := Lib.hid (Rw.drew H8.out)
                      refine wp_region_held_drew (S := fun wx => wx.cell? ⟨w.heap.size, 9, none⟩ = some (.int .i64 gn) ∧ Rw wx Bz (recC (rcK 0 0)) 85) (by kernel_rfl) ⟨y9, H8d.out⟩ (fun hHeld => ?_)
                      refine wpAnyH_take (i := 0) (oi := { dst := some 40, op := Op.fieldAddr 33 (Operand.tmp 3) 6, type := 0, pos := "ref.go:31", after := #[{ on := 3, ground := Ground.gcOnly Departure.lateStores }], guard := none }) (v := ?_) rfl (by kernel_rfl) (by kernel_rfl) (by kernel_rfl) (fun _ _ _ h => h) (Or.inl ⟨by rfl, ?_⟩) hHeld ?_
                      rotate_left
                      · intro w hSw
                        (try dsimp only at hSw)
                        first | (go_simp; done) | (go_simp; with_reducible rfl)
                      (try simp only [Act.put, List.setIfInBounds_toArray, List.set_cons_zero, List.set_cons_succ])
                      refine wpAnyH_take (i := 1) (oi := { dst := some 41, op := Op.load 3 (Operand.tmp 40), type := 3, pos := "ref.go:31", after := #[{ on := 0, ground := Ground.data }, { on := 3, ground := Ground.gcOnly Departure.lateStores }], guard := none }) (v := ?_) rfl (by kernel_rfl) (by kernel_rfl) (by kernel_rfl) (fun _ _ _ h => h) (Or.inl ⟨by rfl, ?_⟩) hHeld ?_
                      rotate_left
                      · intro w hSw
                        (try dsimp only at hSw)
                        first | (go_simp; done) | (go_simp; with_reducible rfl)
                      (try simp only [Act.put, List.setIfInBounds_toArray, List.set_cons_zero, List.set_cons_succ])
                      refine wpAnyH_take (i := 2) (oi := { dst := some 42, op := Op.build 85 #[(0, Operand.const (Value.int IntKind.i64 6)), (4, Operand.tmp 41)], type := 85, pos := "ref.go:31", after := #[{ on := 1, ground := Ground.data }, { on := 3, ground := Ground.gcOnly Departure.lateStores }], guard := none }) (v := ?_) rfl (by kernel_rfl) (by kernel_rfl) (by kernel_rfl) (fun _ _ _ h => h) (Or.inl ⟨by rfl, ?_⟩) hHeld ?_
                      rotate_left
                      · intro w hSw
                        (try dsimp only at hSw)
                        first | (go_simp; done) | (go_simp; with_reducible rfl)
                      (try simp only [Act.put, List.setIfInBounds_toArray, List.set_cons_zero, List.set_cons_succ])
                      refine wpAnyH_take (i := 3) (oi := { dst := some 6, op := Op.assign (Operand.const (Value.int IntKind.i64 3)), type := 3, pos := "ref.go:31", after := #[{ on := 0, ground := Ground.textOnly Departure.lateStores }, { on := 1, ground := Ground.textOnly Departure.lateStores }, { on := 2, ground := Ground.textOnly Departure.lateStores }], guard := none }) (v := ?_) rfl (by kernel_rfl) (by kernel_rfl) (by kernel_rfl) (fun _ _ _ h => h) (Or.inl ⟨by rfl, ?_⟩) hHeld ?_
                      rotate_left
                      · intro w hSw
                        (try dsimp only at hSw)
                        first | (go_simp; done) | (go_simp; with_reducible rfl)
                      (try simp only [Act.put, List.setIfInBounds_toArray, List.set_cons_zero, List.set_cons_succ])
                      refine wpAnyH_ready (rs := [4]) (by kernel_rfl) (by simp) ?_
                      refine AllReadyH.cons (o := { dst := none, op := Op.store 85 (Operand.tmp 7) (Operand.tmp 42), type := 0, pos := "ref.go:31", after := #[{ on := 2, ground := Ground.data }, { on := 3, ground := Ground.chain }, { on := 0, ground := Ground.phase }, { on := 1, ground := Ground.phase }, { on := 2, ground := Ground.phase }, { on := 3, ground := Ground.phase }], guard := none }) rfl (fun K hK => ?_) AllReadyH.nil
                      rw [if_pos (by rfl)]
                      refine wp_store_row 85 (.tmp 7) (.tmp 42) rfl (w.heap.size + 1 + 1) (recC (rcK 6 gn)) rfl rfl 85 _ (Rw.drew H7.out) i19 rfl (recC_one _) ?_
                      clear hHeld
                      refine hK.out _ _ ?_ (fun hHeld => ?_)
                      · exact ⟨(World.cell?_of_block (a := ⟨w.heap.size, 9, none⟩) (setRow_block W.drew (w.heap.size + 1 + 1) w.heap.size (recC (rcK 6 gn)) (by omega))).trans y9, (setRow_block W.drew (w.heap.size + 1 + 1) Bz (recC (rcK 6 gn)) (by have := HBZ.out; omega)).trans H8d.out⟩
                      clear hK K
                      (try simp only [Act.put])
                      refine wpAnyH_done (by kernel_rfl) ?_ _
                      clear hHeld
                      go_wp2
                      refine bodyPost_ret (results_tmp_cell rfl _ _ (w.heap.size + 1 + 1) 85 (recC (rcK 6 gn)) (0, 0) _ rfl ((Rw.drew H7.out).set (recC (rcK 6 gn))) Tryz.underlying85 rfl i19) rfl ?_
                      exact ⟨by rw [HE.out]; rfl, below_setRow (below_drew HB.out) (by omega) (recC (rcK 6 gn))⟩
                  | false =>
                    as_aux_lemma =>
                      have HE : Hid (nextX ph 1 gn dl false ls = (4, (rcK 7 gn))) := Lib.hid (by have k1 := K1.out; have k2 := K2.out; have k3 := K3.out; unfold nextX; (repeat' split) <;> first | rfl | (exfalso; simp_all; done) | (exfalso; omega) | (exfalso; simp_all; omega))
                      go_upto_region 11 with (fail)
                      have y9 : W.drew.cell? ⟨w.heap.size, 9, none⟩ = some (.int .i64 gn) := c9
                      have H8d := Lib.hid (Rw.drew H8.out)
                      refine wp_region_held_drew (S := fun wx => wx.cell? ⟨w.heap.size, 9, none⟩ = some (.int .i64 gn) ∧ Rw wx Bz (recC (rcK 0 0)) 85) (by kernel_rfl) ⟨y9, H8d.out⟩ (fun hHeld => ?_)
                      refine wpAnyH_take (i := 0) (oi := { dst := some 43, op := Op.fieldAddr 33 (Operand.tmp 3) 6, type := 0, pos := "ref.go:33", after := #[{ on := 3, ground := Ground.gcOnly Departure.lateStores }], guard := none }) (v := ?_) rfl (by kernel_rfl) (by kernel_rfl) (by kernel_rfl) (fun _ _ _ h => h) (Or.inl ⟨by rfl, ?_⟩) hHeld ?_
                      rotate_left
                      · intro w hSw
                        (try dsimp only at hSw)
                        first | (go_simp; done) | (go_simp; with_reducible rfl)
                      (try simp only [Act.put, List.setIfInBounds_toArray, List.set_cons_zero, List.set_cons_succ])
                      refine wpAnyH_take (i := 1) (oi := { dst := some 44, op := Op.load 3 (Operand.tmp 43), type := 3, pos := "ref.go:33", after := #[{ on := 0, ground := Ground.data }, { on := 3, ground := Ground.gcOnly Departure.lateStores }], guard := none }) (v := ?_) rfl (by kernel_rfl) (by kernel_rfl) (by kernel_rfl) (fun _ _ _ h => h) (Or.inl ⟨by rfl, ?_⟩) hHeld ?_
                      rotate_left
                      · intro w hSw
                        (try dsimp only at hSw)
                        first | (go_simp; done) | (go_simp; with_reducible rfl)
                      (try simp only [Act.put, List.setIfInBounds_toArray, List.set_cons_zero, List.set_cons_succ])
                      refine wpAnyH_take (i := 2) (oi := { dst := some 45, op := Op.build 85 #[(0, Operand.const (Value.int IntKind.i64 7)), (4, Operand.tmp 44)], type := 85, pos := "ref.go:33", after := #[{ on := 1, ground := Ground.data }, { on := 3, ground := Ground.gcOnly Departure.lateStores }], guard := none }) (v := ?_) rfl (by kernel_rfl) (by kernel_rfl) (by kernel_rfl) (fun _ _ _ h => h) (Or.inl ⟨by rfl, ?_⟩) hHeld ?_
                      rotate_left
                      · intro w hSw
                        (try dsimp only at hSw)
                        first | (go_simp; done) | (go_simp; with_reducible rfl)
                      (try simp only [Act.put, List.setIfInBounds_toArray, List.set_cons_zero, List.set_cons_succ])
                      refine wpAnyH_take (i := 3) (oi := { dst := some 6, op := Op.assign (Operand.const (Value.int IntKind.i64 4)), type := 3, pos := "ref.go:33", after := #[{ on := 0, ground := Ground.textOnly Departure.lateStores }, { on := 1, ground := Ground.textOnly Departure.lateStores }, { on := 2, ground := Ground.textOnly Departure.lateStores }], guard := none }) (v := ?_) rfl (by kernel_rfl) (by kernel_rfl) (by kernel_rfl) (fun _ _ _ h => h) (Or.inl ⟨by rfl, ?_⟩) hHeld ?_
                      rotate_left
                      · intro w hSw
                        (try dsimp only at hSw)
                        first | (go_simp; done) | (go_simp; with_reducible rfl)
                      (try simp only [Act.put, List.setIfInBounds_toArray, List.set_cons_zero, List.set_cons_succ])
                      refine wpAnyH_ready (rs := [4]) (by kernel_rfl) (by simp) ?_
                      refine AllReadyH.cons (o := { dst := none, op := Op.store 85 (Operand.tmp 7) (Operand.tmp 45), type := 0, pos := "ref.go:33", after := #[{ on := 2, ground := Ground.data }, { on := 3, ground := Ground.chain }, { on := 0, ground := Ground.phase }, { on := 1, ground := Ground.phase }, { on := 2, ground := Ground.phase }, { on := 3, ground := Ground.phase }], guard := none }) rfl (fun K hK => ?_) AllReadyH.nil
                      rw [if_pos (by rfl)]
                      refine wp_store_row 85 (.tmp 7) (.tmp 45) rfl (w.heap.size + 1 + 1) (recC (rcK 7 gn)) rfl rfl 85 _ (Rw.drew H7.out) i19 rfl (recC_one _) ?_
                      clear hHeld
                      refine hK.out _ _ ?_ (fun hHeld => ?_)
                      · exact ⟨(World.cell?_of_block (a := ⟨w.heap.size, 9, none⟩) (setRow_block W.drew (w.heap.size + 1 + 1) w.heap.size (recC (rcK 7 gn)) (by omega))).trans y9, (setRow_block W.drew (w.heap.size + 1 + 1) Bz (recC (rcK 7 gn)) (by have := HBZ.out; omega)).trans H8d.out⟩
                      clear hK K
                      (try simp only [Act.put])
                      refine wpAnyH_done (by kernel_rfl) ?_ _
                      clear hHeld
                      go_wp2
                      refine bodyPost_ret (results_tmp_cell rfl _ _ (w.heap.size + 1 + 1) 85 (recC (rcK 7 gn)) (0, 0) _ rfl ((Rw.drew H7.out).set (recC (rcK 7 gn))) Tryz.underlying85 rfl i19) rfl ?_
                      exact ⟨by rw [HE.out]; rfl, below_setRow (below_drew HB.out) (by omega) (recC (rcK 7 gn))⟩
              have e4 : (sw == 1) = false := beq_eq_false_iff_ne.2 h4
              have K4 := Lib.hid h4
              clear h4
              as_aux_lemma =>
                cases fo with
                | true =>
                  as_aux_lemma =>
                    have HE : Hid (nextX ph sw gn dl true ls = (2, (rcK 5 (gn + 1)))) := Lib.hid (by have k1 := K1.out; have k2 := K2.out; have k3 := K3.out; have k4 := K4.out; unfold nextX; (repeat' split) <;> first | rfl | (exfalso; simp_all; done) | (exfalso; omega) | (exfalso; simp_all; omega))
                    go_upto_region 13 with (fail)
                    have y9 : W.drew.cell? ⟨w.heap.size, 9, none⟩ = some (.int .i64 gn) := c9
                    have H8d := Lib.hid (Rw.drew H8.out)
                    refine wp_region_held_drew (S := fun wx => wx.cell? ⟨w.heap.size, 9, none⟩ = some (.int .i64 gn) ∧ Rw wx Bz (recC (rcK 0 0)) 85) (by kernel_rfl) ⟨y9, H8d.out⟩ (fun hHeld => ?_)
                    refine wpAnyH_take (i := 0) (oi := { dst := some 47, op := Op.fieldAddr 33 (Operand.tmp 3) 6, type := 0, pos := "ref.go:36", after := #[{ on := 4, ground := Ground.gcOnly Departure.lateStores }], guard := none }) (v := ?_) rfl (by kernel_rfl) (by kernel_rfl) (by kernel_rfl) (fun _ _ _ h => h) (Or.inl ⟨by rfl, ?_⟩) hHeld ?_
                    rotate_left
                    · intro w hSw
                      (try dsimp only at hSw)
                      first | (go_simp; done) | (go_simp; with_reducible rfl)
                    (try simp only [Act.put, List.setIfInBounds_toArray, List.set_cons_zero, List.set_cons_succ])
                    refine wpAnyH_take (i := 1) (oi := { dst := some 48, op := Op.load 3 (Operand.tmp 47), type := 3, pos := "ref.go:36", after := #[{ on := 0, ground := Ground.data }, { on := 4, ground := Ground.gcOnly Departure.lateStores }], guard := none }) (v := ?_) rfl (by kernel_rfl) (by kernel_rfl) (by kernel_rfl) (fun _ _ _ h => h) (Or.inl ⟨by rfl, ?_⟩) hHeld ?_
                    rotate_left
                    · intro w hSw
                      (try dsimp only at hSw)
                      first | (go_simp; done) | (go_simp; with_reducible rfl)
                    (try simp only [Act.put, List.setIfInBounds_toArray, List.set_cons_zero, List.set_cons_succ])
                    refine wpAnyH_take (i := 2) (oi := { dst := some 49, op := Op.binOp BinOp.add 3 (Operand.tmp 48) (Operand.const (Value.int IntKind.i64 1)) 3, type := 3, pos := "ref.go:36", after := #[{ on := 1, ground := Ground.data }, { on := 4, ground := Ground.gcOnly Departure.lateStores }], guard := none }) (v := ?_) rfl (by kernel_rfl) (by kernel_rfl) (by kernel_rfl) (fun _ _ _ h => h) (Or.inl ⟨by rfl, ?_⟩) hHeld ?_
                    rotate_left
                    · intro w hSw
                      (try dsimp only at hSw)
                      first | (go_simp; done) | (go_simp; with_reducible rfl)
                    (try simp only [Act.put, List.setIfInBounds_toArray, List.set_cons_zero, List.set_cons_succ])
                    refine wpAnyH_take (i := 3) (oi := { dst := some 50, op := Op.build 85 #[(0, Operand.const (Value.int IntKind.i64 5)), (4, Operand.tmp 49)], type := 85, pos := "ref.go:36", after := #[{ on := 2, ground := Ground.data }, { on := 4, ground := Ground.gcOnly Departure.lateStores }], guard := none }) (v := ?_) rfl (by kernel_rfl) (by kernel_rfl) (by kernel_rfl) (fun _ _ _ h => h) (Or.inl ⟨by rfl, ?_⟩) hHeld ?_
                    rotate_left
                    · intro w hSw
                      (try dsimp only at hSw)
                      first | (go_simp; done) | (go_simp; with_reducible rfl)
                    (try simp only [Act.put, List.setIfInBounds_toArray, List.set_cons_zero, List.set_cons_succ])
                    refine wpAnyH_take (i := 4) (oi := { dst := some 6, op := Op.assign (Operand.const (Value.int IntKind.i64 2)), type := 3, pos := "ref.go:36", after := #[{ on := 0, ground := Ground.textOnly Departure.lateStores }, { on := 1, ground := Ground.textOnly Departure.lateStores }, { on := 2, ground := Ground.textOnly Departure.lateStores }, { on := 3, ground := Ground.textOnly Departure.lateStores }], guard := none }) (v := ?_) rfl (by kernel_rfl) (by kernel_rfl) (by kernel_rfl) (fun _ _ _ h => h) (Or.inl ⟨by rfl, ?_⟩) hHeld ?_
                    rotate_left
                    · intro w hSw
                      (try dsimp only at hSw)
                      first | (go_simp; done) | (go_simp; with_reducible rfl)
                    (try simp only [Act.put, List.setIfInBounds_toArray, List.set_cons_zero, List.set_cons_succ])
                    refine wpAnyH_ready (rs := [5]) (by kernel_rfl) (by simp) ?_
                    refine AllReadyH.cons (o := { dst := none, op := Op.store 85 (Operand.tmp 7) (Operand.tmp 50), type := 0, pos := "ref.go:36", after := #[{ on := 3, ground := Ground.data }, { on := 4, ground := Ground.chain }, { on := 0, ground := Ground.phase }, { on := 1, ground := Ground.phase }, { on := 2, ground := Ground.phase }, { on := 3, ground := Ground.phase }, { on := 4, ground := Ground.phase }], guard := none }) rfl (fun K hK => ?_) AllReadyH.nil
                    rw [if_pos (by rfl)]
                    refine wp_store_row 85 (.tmp 7) (.tmp 50) rfl (w.heap.size + 1 + 1) (recC (rcK 5 (gn + 1))) rfl rfl 85 _ (Rw.drew H7.out) i19 rfl (recC_one _) ?_
                    clear hHeld
                    refine hK.out _ _ ?_ (fun hHeld => ?_)
                    · exact ⟨(World.cell?_of_block (a := ⟨w.heap.size, 9, none⟩) (setRow_block W.drew (w.heap.size + 1 + 1) w.heap.size (recC (rcK 5 (gn + 1))) (by omega))).trans y9, (setRow_block W.drew (w.heap.size + 1 + 1) Bz (recC (rcK 5 (gn + 1))) (by have := HBZ.out; omega)).trans H8d.out⟩
                    clear hK K
                    (try simp only [Act.put])
                    refine wpAnyH_done (by kernel_rfl) ?_ _
                    clear hHeld
                    go_wp2
                    refine bodyPost_ret (results_tmp_cell rfl _ _ (w.heap.size + 1 + 1) 85 (recC (rcK 5 (gn + 1))) (0, 0) _ rfl ((Rw.drew H7.out).set (recC (rcK 5 (gn + 1)))) Tryz.underlying85 rfl i19) rfl ?_
                    exact ⟨by rw [HE.out]; rfl, below_setRow (below_drew HB.out) (by omega) (recC (rcK 5 (gn + 1)))⟩
                | false =>
                  as_aux_lemma =>
                    have HE : Hid (nextX ph sw gn dl false ls = (0, (rcK 0 0))) := Lib.hid (by have k1 := K1.out; have k2 := K2.out; have k3 := K3.out; have k4 := K4.out; unfold nextX; (repeat' split) <;> first | rfl | (exfalso; simp_all; done) | (exfalso; omega) | (exfalso; simp_all; omega))
                    go_upto_region 14 with (fail)
                    have y9 : W.drew.cell? ⟨w.heap.size, 9, none⟩ = some (.int .i64 gn) := c9
                    have H8d := Lib.hid (Rw.drew H8.out)
                    refine wp_region_held_drew (S := fun wx => wx.cell? ⟨w.heap.size, 9, none⟩ = some (.int .i64 gn) ∧ Rw wx Bz (recC (rcK 0 0)) 85) (by kernel_rfl) ⟨y9, H8d.out⟩ (fun hHeld => ?_)
                    refine wpAnyH_take (i := 0) (oi := { dst := some 51, op := Op.load 85 (Operand.tmp 8), type := 85, pos := "ref.go:38", after := #[{ on := 1, ground := Ground.gcOnly Departure.lateStores }], guard := none }) (v := .agg (recC (rcK 0 0))) rfl (by kernel_rfl) (by kernel_rfl) (by kernel_rfl) (fun _ _ _ h => h) (Or.inl ⟨by rfl, fun W hS => exec_load_row 85 (.tmp 8) rfl Bz rfl 85 (recC (rcK 0 0)) (0, 0) _ hS.2 Tryz.underlying85 rfl i19⟩) hHeld ?_
                    (try simp only [Act.put, List.setIfInBounds_toArray, List.set_cons_zero, List.set_cons_succ])
                    refine wpAnyH_take (i := 1) (oi := { dst := some 6, op := Op.assign (Operand.const (Value.int IntKind.i64 0)), type := 3, pos := "ref.go:38", after := #[{ on := 0, ground := Ground.textOnly Departure.lateStores }], guard := none }) (v := ?_) rfl (by kernel_rfl) (by kernel_rfl) (by kernel_rfl) (fun _ _ _ h => h) (Or.inl ⟨by rfl, ?_⟩) hHeld ?_
                    rotate_left
                    · intro w hSw
                      (try dsimp only at hSw)
                      first | (go_simp; done) | (go_simp; with_reducible rfl)
                    (try simp only [Act.put, List.setIfInBounds_toArray, List.set_cons_zero, List.set_cons_succ])
                    refine wpAnyH_ready (rs := [2]) (by kernel_rfl) (by simp) ?_
                    refine AllReadyH.cons (o := { dst := none, op := Op.store 85 (Operand.tmp 7) (Operand.tmp 51), type := 0, pos := "ref.go:38", after := #[{ on := 0, ground := Ground.data }, { on := 1, ground := Ground.chain }, { on := 0, ground := Ground.phase }, { on := 1, ground := Ground.phase }], guard := none }) rfl (fun K hK => ?_) AllReadyH.nil
                    rw [if_pos (by rfl)]
                    refine wp_store_row 85 (.tmp 7) (.tmp 51) rfl (w.heap.size + 1 + 1) (recC (rcK 0 0)) rfl rfl 85 _ (Rw.drew H7.out) i19 rfl (recC_one _) ?_
                    clear hHeld
                    refine hK.out _ _ ?_ (fun hHeld => ?_)
                    · exact ⟨(World.cell?_of_block (a := ⟨w.heap.size, 9, none⟩) (setRow_block W.drew (w.heap.size + 1 + 1) w.heap.size (recC (rcK 0 0)) (by omega))).trans y9, (setRow_block W.drew (w.heap.size + 1 + 1) Bz (recC (rcK 0 0)) (by have := HBZ.out; omega)).trans H8d.out⟩
                    clear hK K
                    (try simp only [Act.put])
                    refine wpAnyH_done (by kernel_rfl) ?_ _
                    clear hHeld
                    go_wp2
                    refine bodyPost_ret (results_tmp_cell rfl _ _ (w.heap.size + 1 + 1) 85 (recC (rcK 0 0)) (0, 0) _ rfl ((Rw.drew H7.out).set (recC (rcK 0 0))) Tryz.underlying85 rfl i19) rfl ?_
                    exact ⟨by rw [HE.out]; rfl, below_setRow (below_drew HB.out) (by omega) (recC (rcK 0 0))⟩
      have e2 : (ph == 3) = false := beq_eq_false_iff_ne.2 (fun e => h2 (.inl e))
      have g2 : (ph == 6) = false := beq_eq_false_iff_ne.2 (fun e => h2 (.inr e))
      have K2 := Lib.hid h2
      clear h2
      as_aux_lemma =>
        by_cases h5 : ph = 7
        case pos =>
          as_aux_lemma =>
            subst h5
            as_aux_lemma =>
              go_upto_region 15 with (fail)
              go_quiet (first | (go_at_call 56; exact HLQ.out _))
              go_upto_region 16 with (fail)
              refine name_w (fun Z => Rw Z (w.heap.size + 1 + 1) (recC (rcK 0 0)) 85 ∧ Rw Z Bz (recC (rcK 0 0)) 85 ∧ Below w.heap.size w Z) ⟨Rw.drewN H7.out _, Rw.drewN H8.out _, HB.out.trans (below_drewN _ _ _)⟩ ?_
              clear c0 c8 c9 c10 c11 H7 H8 HB
              rintro W ⟨h7, h8, hb⟩
              have H7 := Lib.hid h7
              have H8 := Lib.hid h8
              have HB := Lib.hid hb
              clear h7 h8 hb
              as_aux_lemma =>
                as_aux_lemma =>
                  have HE : Hid (nextX 7 sw gn dl fo ls = (6, (rcK 10 0))) := Lib.hid (by have k1 := K1.out; have k2 := K2.out; unfold nextX; (repeat' split) <;> first | rfl | (exfalso; simp_all; done) | (exfalso; omega) | (exfalso; simp_all; omega))
                  go_wp2_with (refine wpList_plain rfl fun _ hK => wp_store_row 85 (.tmp 7) (.tmp 69) rfl (w.heap.size + 1 + 1) (recC (rcK 10 0)) rfl rfl 85 _ H7.out i19 rfl (recC_one _) (hK _ _ ?_); clear hK)
                  refine bodyPost_ret (results_tmp_cell rfl _ _ (w.heap.size + 1 + 1) 85 (recC (rcK 10 0)) (0, 0) _ rfl (H7.out.set (recC (rcK 10 0))) Tryz.underlying85 rfl i19) rfl ?_
                  exact ⟨by rw [HE.out]; rfl, below_setRow HB.out (by omega) (recC (rcK 10 0))⟩
        have e5 : (ph == 7) = false := beq_eq_false_iff_ne.2 h5
        have K5 := Lib.hid h5
        clear h5
        as_aux_lemma =>
          by_cases h6 : ph = 5
          case pos =>
            as_aux_lemma =>
              subst h6
              by_cases h7 : dl ≤ ls
              case pos =>
                have e7 : decide (dl ≤ ls) = true := decide_eq_true h7
                have K7 := Lib.hid h7
                clear h7
                as_aux_lemma =>
                  go_upto_region 15 with (fail)
                  go_quiet (first | (go_at_call 56; exact HLQ.out _))
                  go_upto_region 16 with (fail)
                  refine name_w (fun Z => Rw Z (w.heap.size + 1 + 1) (recC (rcK 0 0)) 85 ∧ Rw Z Bz (recC (rcK 0 0)) 85 ∧ Below w.heap.size w Z) ⟨Rw.drewN H7.out _, Rw.drewN H8.out _, HB.out.trans (below_drewN _ _ _)⟩ ?_
                  clear c0 c8 c9 c10 c11 H7 H8 HB
                  rintro W ⟨h7, h8, hb⟩
                  have H7 := Lib.hid h7
                  have H8 := Lib.hid h8
                  have HB := Lib.hid hb
                  clear h7 h8 hb
                  as_aux_lemma =>
                    as_aux_lemma =>
                      have HE : Hid (nextX 5 sw gn dl fo ls = (6, (rcK 10 0))) := Lib.hid (by have k1 := K1.out; have k2 := K2.out; have k5 := K5.out; have k7 := K7.out; unfold nextX; (repeat' split) <;> first | rfl | (exfalso; simp_all; done) | (exfalso; omega) | (exfalso; simp_all; omega))
                      go_wp2_with (refine wpList_plain rfl fun _ hK => wp_store_row 85 (.tmp 7) (.tmp 69) rfl (w.heap.size + 1 + 1) (recC (rcK 10 0)) rfl rfl 85 _ H7.out i19 rfl (recC_one _) (hK _ _ ?_); clear hK)
                      refine bodyPost_ret (results_tmp_cell rfl _ _ (w.heap.size + 1 + 1) 85 (recC (rcK 10 0)) (0, 0) _ rfl (H7.out.set (recC (rcK 10 0))) Tryz.underlying85 rfl i19) rfl ?_
                      exact ⟨by rw [HE.out]; rfl, below_setRow HB.out (by omega) (recC (rcK 10 0))⟩
              have e7 : decide (dl ≤ ls) = false := decide_eq_false h7
              have K7 := Lib.hid h7
              clear h7
              as_aux_lemma =>
                go_upto_region 15 with (fail)
                go_quiet (first | (go_at_call 56; exact HLQ.out _))
                go_upto_region 17 with (fail)
                refine name_w (fun Z => Rw Z (w.heap.size + 1 + 1) (recC (rcK 0 0)) 85 ∧ Rw Z Bz (recC (rcK 0 0)) 85 ∧ Below w.heap.size w Z) ⟨Rw.drewN H7.out _, Rw.drewN H8.out _, HB.out.trans (below_drewN _ _ _)⟩ ?_
                clear c0 c8 c9 c10 c11 H7 H8 HB
                rintro W ⟨h7, h8, hb⟩
                have H7 := Lib.hid h7
                have H8 := Lib.hid h8
                have HB := Lib.hid hb
                clear h7 h8 hb
                as_aux_lemma =>
                  as_aux_lemma =>
                    have HE : Hid (nextX 5 sw gn dl fo ls = (0, (rcK 0 0))) := Lib.hid (by have k1 := K1.out; have k2 := K2.out; have k5 := K5.out; have k7 := K7.out; unfold nextX; (repeat' split) <;> first | rfl | (exfalso; simp_all; done) | (exfalso; omega) | (exfalso; simp_all; omega))
                    go_upto_region 17 with (fail)
                    have H8d := Lib.hid (Rw.drew H8.out)
                    refine wp_region_held_drew (S := fun wx => True ∧ Rw wx Bz (recC (rcK 0 0)) 85) (by kernel_rfl) ⟨trivial, H8d.out⟩ (fun hHeld => ?_)
                    refine wpAnyH_take (i := 0) (oi := { dst := some 70, op := Op.load 85 (Operand.tmp 8), type := 85, pos := "ref.go:43", after := #[{ on := 1, ground := Ground.gcOnly Departure.lateStores }], guard := none }) (v := .agg (recC (rcK 0 0))) rfl (by kernel_rfl) (by kernel_rfl) (by kernel_rfl) (fun _ _ _ h => h) (Or.inl ⟨by rfl, fun W hS => exec_load_row 85 (.tmp 8) rfl Bz rfl 85 (recC (rcK 0 0)) (0, 0) _ hS.2 Tryz.underlying85 rfl i19⟩) hHeld ?_
                    (try simp only [Act.put, List.setIfInBounds_toArray, List.set_cons_zero, List.set_cons_succ])
                    refine wpAnyH_take (i := 1) (oi := { dst := some 6, op := Op.assign (Operand.const (Value.int IntKind.i64 0)), type := 3, pos := "ref.go:43", after := #[{ on := 0, ground := Ground.textOnly Departure.lateStores }], guard := none }) (v := ?_) rfl (by kernel_rfl) (by kernel_rfl) (by kernel_rfl) (fun _ _ _ h => h) (Or.inl ⟨by rfl, ?_⟩) hHeld ?_
                    rotate_left
                    · intro w hSw
                      (try dsimp only at hSw)
                      first | (go_simp; done) | (go_simp; with_reducible rfl)
                    (try simp only [Act.put, List.setIfInBounds_toArray, List.set_cons_zero, List.set_cons_succ])
                    refine wpAnyH_ready (rs := [2]) (by kernel_rfl) (by simp) ?_
                    refine AllReadyH.cons (o := { dst := none, op := Op.store 85 (Operand.tmp 7) (Operand.tmp 70), type := 0, pos := "ref.go:43", after := #[{ on := 0, ground := Ground.data }, { on := 1, ground := Ground.chain }, { on := 0, ground := Ground.phase }, { on := 1, ground := Ground.phase }], guard := none }) rfl (fun K hK => ?_) AllReadyH.nil
                    rw [if_pos (by rfl)]
                    refine wp_store_row 85 (.tmp 7) (.tmp 70) rfl (w.heap.size + 1 + 1) (recC (rcK 0 0)) rfl rfl 85 _ (Rw.drew H7.out) i19 rfl (recC_one _) ?_
                    clear hHeld
                    refine hK.out _ _ ?_ (fun hHeld => ?_)
                    · exact ⟨trivial, (setRow_block W.drew (w.heap.size + 1 + 1) Bz (recC (rcK 0 0)) (by have := HBZ.out; omega)).trans H8d.out⟩
                    clear hK K
                    (try simp only [Act.put])
                    refine wpAnyH_done (by kernel_rfl) ?_ _
                    clear hHeld
                    go_wp2
                    refine bodyPost_ret (results_tmp_cell rfl _ _ (w.heap.size + 1 + 1) 85 (recC (rcK 0 0)) (0, 0) _ rfl ((Rw.drew H7.out).set (recC (rcK 0 0))) Tryz.underlying85 rfl i19) rfl ?_
                    exact ⟨by rw [HE.out]; rfl, below_setRow (below_drew HB.out) (by omega) (recC (rcK 0 0))⟩
          have e6 : (ph == 5) = false := beq_eq_false_iff_ne.2 h6
          have K6 := Lib.hid h6
          clear h6
          as_aux_lemma =>
            as_aux_lemma =>
              go_upto_region 15 with (fail)
              go_quiet (first | (go_at_call 56; exact HLQ.out _))
              go_upto_region 17 with (fail)
              refine name_w (fun Z => Rw Z (w.heap.size + 1 + 1) (recC (rcK 0 0)) 85 ∧ Rw Z Bz (recC (rcK 0 0)) 85 ∧ Below w.heap.size w Z) ⟨Rw.drewN H7.out _, Rw.drewN H8.out _, HB.out.trans (below_drewN _ _ _)⟩ ?_
              clear c0 c8 c9 c10 c11 H7 H8 HB
              rintro W ⟨h7, h8, hb⟩
              have H7 := Lib.hid h7
              have H8 := Lib.hid h8
              have HB := Lib.hid hb
              clear h7 h8 hb
              as_aux_lemma =>
                as_aux_lemma =>
                  have HE : Hid (nextX ph sw gn dl fo ls = (0, (rcK 0 0))) := Lib.hid (by have k1 := K1.out; have k2 := K2.out; have k5 := K5.out; have k6 := K6.out; unfold nextX; (repeat' split) <;> first | rfl | (exfalso; simp_all; done) | (exfalso; omega) | (exfalso; simp_all; omega))
                  go_upto_region 17 with (fail)
                  have H8d := Lib.hid (Rw.drew H8.out)
                  refine wp_region_held_drew (S := fun wx => True ∧ Rw wx Bz (recC (rcK 0 0)) 85) (by kernel_rfl) ⟨trivial, H8d.out⟩ (fun hHeld => ?_)
                  refine wpAnyH_take (i := 0) (oi := { dst := some 70, op := Op.load 85 (Operand.tmp 8), type := 85, pos := "ref.go:43", after := #[{ on := 1, ground := Ground.gcOnly Departure.lateStores }], guard := none }) (v := .agg (recC (rcK 0 0))) rfl (by kernel_rfl) (by kernel_rfl) (by kernel_rfl) (fun _ _ _ h => h) (Or.inl ⟨by rfl, fun W hS => exec_load_row 85 (.tmp 8) rfl Bz rfl 85 (recC (rcK 0 0)) (0, 0) _ hS.2 Tryz.underlying85 rfl i19⟩) hHeld ?_
                  (try simp only [Act.put, List.setIfInBounds_toArray, List.set_cons_zero, List.set_cons_succ])
                  refine wpAnyH_take (i := 1) (oi := { dst := some 6, op := Op.assign (Operand.const (Value.int IntKind.i64 0)), type := 3, pos := "ref.go:43", after := #[{ on := 0, ground := Ground.textOnly Departure.lateStores }], guard := none }) (v := ?_) rfl (by kernel_rfl) (by kernel_rfl) (by kernel_rfl) (fun _ _ _ h => h) (Or.inl ⟨by rfl, ?_⟩) hHeld ?_
                  rotate_left
                  · intro w hSw
                    (try dsimp only at hSw)
                    first | (go_simp; done) | (go_simp; with_reducible rfl)
                  (try simp only [Act.put, List.setIfInBounds_toArray, List.set_cons_zero, List.set_cons_succ])
                  refine wpAnyH_ready (rs := [2]) (by kernel_rfl) (by simp) ?_
                  refine AllReadyH.cons (o := { dst := none, op := Op.store 85 (Operand.tmp 7) (Operand.tmp 70), type := 0, pos := "ref.go:43", after := #[{ on := 0, ground := Ground.data }, { on := 1, ground := Ground.chain }, { on := 0, ground := Ground.phase }, { on := 1, ground := Ground.phase }], guard := none }) rfl (fun K hK => ?_) AllReadyH.nil
                  rw [if_pos (by rfl)]
                  refine wp_store_row 85 (.tmp 7) (.tmp 70) rfl (w.heap.size + 1 + 1) (recC (rcK 0 0)) rfl rfl 85 _ (Rw.drew H7.out) i19 rfl (recC_one _) ?_
                  clear hHeld
                  refine hK.out _ _ ?_ (fun hHeld => ?_)
                  · exact ⟨trivial, (setRow_block W.drew (w.heap.size + 1 + 1) Bz (recC (rcK 0 0)) (by have := HBZ.out; omega)).trans H8d.out⟩
                  clear hK K
                  (try simp only [Act.put])
                  refine wpAnyH_done (by kernel_rfl) ?_ _
                  clear hHeld
                  go_wp2
                  refine bodyPost_ret (results_tmp_cell rfl _ _ (w.heap.size + 1 + 1) 85 (recC (rcK 0 0)) (0, 0) _ rfl ((Rw.drew H7.out).set (recC (rcK 0 0))) Tryz.underlying85 rfl i19) rfl ?_
                  exact ⟨by rw [HE.out]; rfl, below_setRow (below_drew HB.out) (by omega) (recC (rcK 0 0))⟩
end Go.Proofs.YtchaeidmjoelnaaGreat
