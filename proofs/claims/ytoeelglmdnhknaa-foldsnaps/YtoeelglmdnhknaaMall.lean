/-
  What the document's own All answers.
-/
import Derived.Test.YtoeelglmdnhknaaStStepAll
import Derived.Test.YtoeelglmdnhknaaFoAll
namespace Go.Proofs.Ytoeelglmdnhknaa
open Go.RowKit

/-- A region's world under a name, with what is known of it. -/
theorem name_h {P : Program} {md : Region.Mode} {ops : Array Oper} {Q : Exit → Act → World → Prop} {S : World → Prop} {fuel : Nat} {listed : Array Bool} {a : Act} {W : World} (R : World → Prop) (hR : R W) (h : ∀ W', R W' → wpAnyH P md ops Q S fuel listed a W') : wpAnyH P md ops Q S fuel listed a W := h W hR
theorem yields_mid {P : Program} {ops : Array Oper} {S : World → Prop} {op : Oper} {a : Act} (hw : Region.wanted op (yielded ops a.tmps) = true) (ty : TypeId) (x : Operand) (ho : op.op = .load ty x)
    (b o : Nat) (hx : a.eval x = .pointer (some ⟨b, o, none⟩)) (cs : Array Value) (d : TypeDesc) (hS : ∀ w, S w → w.rangeAt b o cs.toList)
    (hu : P.underlying ty = some d) (hd : d.isRow = true) (hi : (P.info? ty).map (·.size) = some cs.size) : YieldsIf P ops S op (.agg cs) a := by
  have h := yieldsIf_load_mid (P := P) (ops := ops) (S := S) hw ty x ho b o hx cs.toList d hS hu hd (by simpa using hi)
  simpa using h
set_option maxRecDepth 100000 in
set_option maxHeartbeats 4000000 in
theorem mall_none (s : St) (Ad : Option Addr) (c : Nat) (w : World) : Calls Try.prog 17 #[stV s, .slice Ad 0 c] w (AllR (allS s []) w) := by
  have HE : Hid (allS s [] = (s, 0)) := Lib.hid rfl
  unfold stV
  obtain ⟨cs, hcs⟩ : ∃ c, c = stC s := ⟨_, rfl⟩
  have HE_cs := Lib.hid hcs
  have HZ_cs : Hid (cs.size = 12) := Lib.hid (by rw [hcs]; rfl)
  have H1_cs : Hid (cs.all (·.oneCell') = true) := Lib.hid (by rw [hcs]; exact stC_one _)
  rw [← hcs]
  clear hcs
  go_enter Try.func17, Try.ntmps17
  go_upto_region 1 with (fail)
  refine name_w (fun W => Rw W w.heap.size cs 25 ∧ Rw W (w.heap.size + 1) zeroSC 25 ∧ Below w.heap.size w W) ⟨(Rw.new _ _ _).alloc _, heap_alloc2_new w _ _, ((Below.refl _ _).alloc (Nat.le_refl _) _).alloc (by simp) _⟩ ?_
  rintro u0 ⟨h1, h2, h3⟩
  have RA0 := Lib.hid h1
  have RZ0 := Lib.hid h2
  have BT0 := Lib.hid h3
  clear h1 h2 h3
  go_wp2
  refine wp_loop_rounds 1 ?_
  rw [rounds_succ]
  have ZF := Lib.hid (RZ0.out.set cs)
  have BF := Lib.hid (below_setRow BT0.out (by omega) (b := w.heap.size + 1) cs)
  go_upto_region 12 with (fail)
  go_wp2_with (first | (refine wpList_load_row rfl 25 (.tmp 2) rfl w.heap.size rfl 25 cs (0, 0) _ RA0.out Try.underlying25 rfl (by rw [HZ_cs.out]; exact i12) ?_) | (refine wpList_plain rfl fun _ hK => wp_store_row 25 (.tmp 4) (.tmp 52) rfl (w.heap.size + 1) cs rfl rfl 25 _ RZ0.out (by rw [HZ_cs.out]; exact i12) (by rw [HZ_cs.out]; rfl) H1_cs.out (hK _ _ ?_); clear hK))
  (try simp only [Exit.inBlock, Exit.then])
  refine bodyPost_ret (results_cell_tmp rfl _ _ (w.heap.size + 1) 25 cs (0, 0) _ rfl ZF.out Try.underlying25 rfl (by rw [HZ_cs.out]; exact i12)) rfl ?_
  exact ⟨by rw [HE.out, HE_cs.out]; rfl, BF.out⟩
set_option maxRecDepth 100000 in
set_option maxHeartbeats 4000000 in
theorem mall_some (s : St) (rs : List Rc) (b o c : Nat) (w : World) (hn : rs.length ≤ 1000) (hpos : 0 < rs.length) (hbl : b < w.heap.size) (hrs : ∀ k (h : k < rs.length), w.rangeAt b (o + k * 19) (recC rs[k]).toList) : Calls Try.prog 17 #[stV s, .slice (some ⟨b, o, none⟩) rs.length c] w (AllR (allS s rs) w) := by
  have HRS := Lib.hid hrs
  have HBL := Lib.hid hbl
  unfold stV
  obtain ⟨cs, hcs⟩ : ∃ c, c = stC s := ⟨_, rfl⟩
  have HE_cs := Lib.hid hcs
  have HZ_cs : Hid (cs.size = 12) := Lib.hid (by rw [hcs]; rfl)
  have H1_cs : Hid (cs.all (·.oneCell') = true) := Lib.hid (by rw [hcs]; exact stC_one _)
  rw [← hcs]
  obtain ⟨r1, hr1⟩ : ∃ r, r = rs[0] := ⟨_, rfl⟩
  have HR1 : Hid (rs[0]? = some r1) := Lib.hid (by rw [hr1]; exact List.getElem?_eq_getElem hpos)
  have HG1 : Hid (w.rangeAt b o (recC r1).toList) := Lib.hid (by have h := hrs 0 hpos; rw [hr1]; simpa using h)
  clear hcs hrs hbl hr1
  go_enter Try.func17, Try.ntmps17
  go_upto_region 1 with (fail)
  refine name_w (fun W => Rw W w.heap.size cs 25 ∧ Rw W (w.heap.size + 1) zeroSC 25 ∧ Below w.heap.size w W) ⟨(Rw.new _ _ _).alloc _, heap_alloc2_new w _ _, ((Below.refl _ _).alloc (Nat.le_refl _) _).alloc (by simp) _⟩ ?_
  rintro u0 ⟨h1, h2, h3⟩
  have RA0 : Hid (Rw u0 w.heap.size (stC s) 25) := Lib.hid (by rw [← HE_cs.out]; exact h1)
  have RZ0 := Lib.hid h2
  have BT0 := Lib.hid h3
  clear h1 h2 h3
  go_wp2
  go_loopg [6] rs.length (fun m' i wr => ∃ (k : Nat) (sk : St), Hid (m' = rs.length - k) ∧ k ≤ rs.length ∧ i = .int .i64 k ∧ Hid ((k = 0 ∧ sk = s) ∨ (0 < k ∧ allS s rs = addN k (runS sk (rs.drop k)))) ∧ Hid (Rw wr w.heap.size (stC sk) 25) ∧ Hid (Rw wr (w.heap.size + 1) zeroSC 25) ∧ Hid (Below w.heap.size w wr))
  case atStart => exact ⟨0, s, Lib.hid rfl, Nat.zero_le _, rfl, Lib.hid (Or.inl ⟨rfl, rfl⟩), RA0, RZ0, BT0⟩
  case round =>
    obtain ⟨k, sk, HG, hk, rfl, HI, RAk, RZk, BTk⟩ := hrel
    clear RA0 RZ0 BT0
    by_cases hlt : k < rs.length
    case pos =>
      by_cases h0 : k = 0
      case pos =>
        obtain rfl : sk = s := by
          rcases HI.out with h | h
          · exact h.2
          · omega
        subst h0
        obtain ⟨kd, hkd⟩ : ∃ k, k = r1.kind := ⟨_, rfl⟩
        have HKD := Lib.hid hkd
        have q0 : wr.cell? ⟨b, o, none⟩ = some (.int .i64 kd) := (BTk.out.cell (p := ⟨b, o, none⟩) HBL.out).trans (by
          rw [HKD.out]
          have h := HG1.out 0 (.int .i64 r1.kind) rfl
          simpa using h)
        clear hkd
        by_cases h11 : kd = 11
        case pos =>
          have HKK : Hid (r1.kind = 11) := Lib.hid (by rw [← HKD.out]; exact h11)
          have f1 : (kd == 11) = true := by simpa using h11
          clear h11
          obtain ⟨ck, hck⟩ : ∃ c, c = stC sk := ⟨_, rfl⟩
          have HE_ck := Lib.hid hck
          have HZ_ck : Hid (ck.size = 12) := Lib.hid (by rw [hck]; rfl)
          have H1_ck : Hid (ck.all (·.oneCell') = true) := Lib.hid (by rw [hck]; exact stC_one _)
          obtain ⟨sc, hsc⟩ : ∃ c, c = stC r1.st := ⟨_, rfl⟩
          have HE_sc := Lib.hid hsc
          have HZ_sc : Hid (sc.size = 12) := Lib.hid (by rw [hsc]; rfl)
          have H1_sc : Hid (sc.all (·.oneCell') = true) := Lib.hid (by rw [hsc]; exact stC_one _)
          rw [← hck] at RAk
          have HSC : Hid (wr.rangeAt b (o + 7) sc.toList) := Lib.hid (by
            rw [hsc]
            have h := rangeAt_drop (rangeAt_under HG1.out BTk.out HBL.out) 7
            rw [recC_st] at h
            exact h)
          have HRT : Hid (∀ W, Calls Try.prog 15 #[.agg sc] W fun e w' => e = .returned (.bool (rightS r1.st)) ∧ Below W.heap.size W w') := Lib.hid (fun W => by
            have h := mright_any r1.st W
            rw [hsc]
            exact h)
          clear hck hsc
          go_upto_region 5 with (fail)
          go_wp2_with (refine wpList_load_midany (by rfl) 25 (.tmp 28) rfl b (o + 7) rfl sc _ HSC.out Try.underlying25 rfl (by rw [HZ_sc.out]; exact i12) ?_)
          refine (HRT.out _).mono ?_
          rintro e u1 ⟨rfl, hb⟩
          have RA1 := Lib.hid (RAk.out.under hb RAk.out.lt)
          have RZ1 := Lib.hid (RZk.out.under hb RZk.out.lt)
          have BT1 := Lib.hid (BTk.out.trans (hb.mono BTk.out.size))
          have HSD := Lib.hid (rangeAt_under HSC.out hb (Nat.lt_of_lt_of_le HBL.out BTk.out.size))
          clear hb HRT HSC RAk RZk BTk q0 f1
          cases hr : rightS r1.st with
          | false =>
            have HE : Hid (allS sk rs = (sk, 0)) := Lib.hid (by
              rw [allS_wrong HR1.out HKK.out hr]
              obtain ⟨rest, hrest⟩ : ∃ rest, rs = r1 :: rest := by
                cases hq : rs with
                | nil => rw [hq] at hpos; cases hpos
                | cons a l => exact ⟨l, by have h := HR1.out; rw [hq] at h; simp at h; rw [h]⟩
              rw [hrest, runS_no (stepS_snap HKK.out)]
              rfl)
            clear hr
            have ZF := Lib.hid (RZ1.out.set ck)
            have BF := Lib.hid (below_setRow BT1.out (by omega) (b := w.heap.size + 1) ck)
            go_upto_region 6 with (fail)
            go_wp2_with (first | (refine wpList_load_row rfl 25 (.tmp 2) rfl w.heap.size rfl 25 ck (0, 0) _ RA1.out Try.underlying25 rfl (by rw [HZ_ck.out]; exact i12) ?_) | (refine wpList_plain rfl fun _ hK => wp_store_row 25 (.tmp 4) (.tmp 32) rfl (w.heap.size + 1) ck rfl rfl 25 _ RZ1.out (by rw [HZ_ck.out]; exact i12) (by rw [HZ_ck.out]; rfl) H1_ck.out (hK _ _ ?_); clear hK))
            (try simp only [Exit.inBlock, Exit.then])
            refine bodyPost_ret (results_cell_tmp rfl _ _ (w.heap.size + 1) 25 ck (0, 0) _ rfl ZF.out Try.underlying25 rfl (by rw [HZ_ck.out]; exact i12)) rfl ?_
            exact ⟨by rw [HE.out, HE_ck.out]; rfl, BF.out⟩
          | true =>
            have HN : Hid (allS sk rs = addN (0 + 1) (runS r1.st (rs.drop (0 + 1)))) := Lib.hid (by
              obtain ⟨rest, hrest⟩ : ∃ rest, rs = r1 :: rest := by
                cases hq : rs with
                | nil => rw [hq] at hpos; cases hpos
                | cons a l => exact ⟨l, by have h := HR1.out; rw [hq] at h; simp at h; rw [h]⟩
              rw [hrest, allS_snap HKK.out hr]
              rfl)
            clear hr
            go_upto_region 3 with (first | (refine wpList_load_midany (by rfl) 25 (.tmp 36) rfl b (o + 7) rfl sc _ HSD.out Try.underlying25 rfl (by rw [HZ_sc.out]; exact i12) ?_) | (refine wpList_plain rfl fun _ hK => wp_store_row 25 (.tmp 2) (.tmp 37) rfl w.heap.size sc rfl rfl 25 _ RA1.out (by rw [HZ_sc.out]; exact i12) (by rw [HZ_sc.out]; first | exact HZ_ck.out | exact HZ_ck.out.symm) H1_sc.out (hK _ _ ?_); clear hK))
            refine name_w (fun W => Rw W w.heap.size (stC r1.st) 25 ∧ Rw W (w.heap.size + 1) zeroSC 25 ∧ Below w.heap.size w W) ⟨by rw [← HE_sc.out]; exact RA1.out.set sc, (setRow_block _ _ _ _ (by omega)).trans RZ1.out, below_setRow BT1.out (Nat.le_refl _) sc⟩ ?_
            rintro u7 ⟨h1, h2, h3⟩
            have RA7 := Lib.hid h1
            have RZ7 := Lib.hid h2
            have BT7 := Lib.hid h3
            clear h1 h2 h3 RA1 RZ1 BT1
            go_wp2
            go_roundg (rs.length - (0 + 1))
            case measure => have := HG.out; omega
            case rel => exact ⟨0 + 1, r1.st, Lib.hid rfl, by omega, by simp, Lib.hid (Or.inr ⟨by omega, HN.out⟩), RA7, RZ7, BT7⟩
        have HP : Hid (allS sk rs = addN 0 (runS sk (rs.drop 0))) := Lib.hid (by rw [List.drop_zero]; exact allS_other HR1.out (by rw [← HKD.out]; exact h11))
        have f1 : (kd == 11) = false := by simpa using h11
        clear h11
        obtain ⟨x, hx⟩ : ∃ x, x = stepS sk rs[0] := ⟨_, rfl⟩
        have HX := Lib.hid hx
        obtain ⟨xb, hxb⟩ : ∃ b, b = x.2 := ⟨_, rfl⟩
        have HXB := Lib.hid hxb
        obtain ⟨ck, hck⟩ : ∃ c, c = stC sk := ⟨_, rfl⟩
        have HE_ck := Lib.hid hck
        have HZ_ck : Hid (ck.size = 12) := Lib.hid (by rw [hck]; rfl)
        have H1_ck : Hid (ck.all (·.oneCell') = true) := Lib.hid (by rw [hck]; exact stC_one _)
        obtain ⟨rc, hrc⟩ : ∃ c, c = recC rs[0] := ⟨_, rfl⟩
        have HE_rc := Lib.hid hrc
        have HZ_rc : Hid (rc.size = 19) := Lib.hid (by rw [hrc]; rfl)
        have H1_rc : Hid (rc.all (·.oneCell') = true) := Lib.hid (by rw [hrc]; exact recC_one _)
        obtain ⟨xc, hxc⟩ : ∃ c, c = stC x.1 := ⟨_, rfl⟩
        have HE_xc := Lib.hid hxc
        have HZ_xc : Hid (xc.size = 12) := Lib.hid (by rw [hxc]; rfl)
        have H1_xc : Hid (xc.all (·.oneCell') = true) := Lib.hid (by rw [hxc]; exact stC_one _)
        rw [← hck] at RAk
        have HRG : Hid (wr.rangeAt b (o + 0 * 19) rc.toList) := Lib.hid (by rw [hrc]; exact rangeAt_under (HRS.out 0 hlt) BTk.out HBL.out)
        have HMS : Hid (∀ W, Calls Try.prog 12 #[.agg ck, .agg rc] W fun e w' => e = .returned (.tuple #[.agg xc, .bool xb]) ∧ Below W.heap.size W w') := Lib.hid (fun W => by
          have h1 := mstep_any sk rs[0] W
          rw [← hx] at h1
          unfold StepR stV recV at h1
          rw [← hck, ← hrc, ← hxc, ← hxb] at h1
          exact h1)
        clear hx hxb hck hrc hxc
        go_upto_region 8 with (fail)
        clear q0 f1
        refine wp_region_held_drew (S := fun W => Rw W w.heap.size ck 25 ∧ W.rangeAt b (o + 0 * 19) rc.toList) (by kernel_rfl) ⟨RAk.out, HRG.out⟩ (fun hHeld => ?_)
        refine wpAnyH_take (i := 0) (oi := { dst := some 39, op := Op.load 25 (Operand.tmp 2), type := 25, pos := "ref.go:133", after := #[], guard := none }) (v := .agg ck) rfl (by kernel_rfl) (by kernel_rfl) (by kernel_rfl) (fun _ _ _ h => h) (Or.inl ⟨by rfl, fun W hS => exec_load_row 25 (.tmp 2) rfl w.heap.size rfl 25 ck (0, 0) _ hS.1 Try.underlying25 rfl (by rw [HZ_ck.out]; exact i12)⟩) hHeld ?_
        (try simp only [Act.put, List.setIfInBounds_toArray, List.set_cons_zero, List.set_cons_succ])
        refine wpAnyH_take (i := 1) (oi := { dst := some 40, op := Op.move (Operand.tmp 1), type := 33, pos := "ref.go:133", after := #[], guard := none }) (v := ?_) rfl (by kernel_rfl) (by kernel_rfl) (by kernel_rfl) (fun _ _ _ h => h) (Or.inl ⟨by rfl, ?_⟩) hHeld ?_
        rotate_left
        · intro W hSw
          clear hSw
          first | (go_simp; done) | (go_simp; with_reducible rfl)
        (try simp only [Act.put, List.setIfInBounds_toArray, List.set_cons_zero, List.set_cons_succ])
        refine wpAnyH_take (i := 2) (oi := { dst := some 41, op := Op.move (Operand.tmp 6), type := 3, pos := "ref.go:133", after := #[], guard := none }) (v := ?_) rfl (by kernel_rfl) (by kernel_rfl) (by kernel_rfl) (fun _ _ _ h => h) (Or.inl ⟨by rfl, ?_⟩) hHeld ?_
        rotate_left
        · intro W hSw
          clear hSw
          first | (go_simp; done) | (go_simp; with_reducible rfl)
        (try simp only [Act.put, List.setIfInBounds_toArray, List.set_cons_zero, List.set_cons_succ])
        refine wpAnyH_take (i := 3) (oi := { dst := some 42, op := Op.indexAddr 33 (Operand.tmp 40) (Operand.tmp 41), type := 0, pos := "ref.go:133", after := #[{ on := 1, ground := Ground.data }, { on := 2, ground := Ground.data }], guard := none }) (v := ?_) rfl (by kernel_rfl) (by kernel_rfl) (by kernel_rfl) (fun _ _ _ h => h) (Or.inl ⟨by rfl, ?_⟩) hHeld ?_
        rotate_left
        · intro W hSw
          clear hSw
          first | (go_simp; done) | (go_simp; with_reducible rfl)
        (try simp only [Act.put, List.setIfInBounds_toArray, List.set_cons_zero, List.set_cons_succ])
        refine wpAnyH_take (i := 4) (oi := { dst := some 43, op := Op.load 27 (Operand.tmp 42), type := 27, pos := "ref.go:133", after := #[{ on := 3, ground := Ground.data }], guard := none }) (v := .agg rc) rfl (by kernel_rfl) (by kernel_rfl) (by kernel_rfl) (fun _ _ _ h => h) (yields_mid (by rfl) 27 (.tmp 42) rfl b (o + 0 * 19) rfl rc _ (fun W hS => hS.2) Try.underlying27 rfl (by rw [HZ_rc.out]; exact i19)) hHeld ?_
        (try simp only [Act.put, List.setIfInBounds_toArray, List.set_cons_zero, List.set_cons_succ])
        refine wpAnyH_ready (rs := [5, 9]) (by kernel_rfl) (by simp) ?_
        refine AllReadyH.cons (o := { dst := some 44, op := Op.call { callee := Callee.value (Operand.func 12), args := #[Operand.tmp 39, Operand.tmp 43], argTypes := #[25, 27] }, type := 28, pos := "ref.go:133", after := #[{ on := 0, ground := Ground.data }, { on := 4, ground := Ground.data }], guard := none }) rfl (fun K hK => ?_) (AllReadyH.cons (o := { dst := some 7, op := Op.alloc 25, type := 0, pos := "ref.go:133", after := #[], guard := none }) rfl (fun K hK => ?_) AllReadyH.nil)
        · go_simp
          refine (HMS.out _).mono ?_
          rintro e u4 ⟨rfl, hb⟩
          have RA4 := Lib.hid (Rw.under (W := wr.drew) RAk.out hb RAk.out.lt)
          have RZ4 := Lib.hid (Rw.under (W := wr.drew) RZk.out hb RZk.out.lt)
          have HR4 := Lib.hid (rangeAt_under (W := wr.drew) HRG.out hb (Nat.lt_of_lt_of_le HBL.out BTk.out.size))
          have BT4 := Lib.hid ((below_drew BTk.out).trans (hb.mono BTk.out.size))
          clear hb hHeld
          refine hK.out _ _ ?_ (fun hHeld => ?_)
          · exact ⟨RA4.out, HR4.out⟩
          clear hK K
          (try simp only [Act.put, List.setIfInBounds_toArray, List.set_cons_zero, List.set_cons_succ])
          refine wpAnyH_take (i := 6) (oi := { dst := some 38, op := Op.move (Operand.tmp 44), type := 28, pos := "ref.go:133", after := #[{ on := 5, ground := Ground.data }], guard := none }) (v := ?_) rfl (by kernel_rfl) (by kernel_rfl) (by kernel_rfl) (fun _ _ _ h => h) (Or.inl ⟨by rfl, ?_⟩) hHeld ?_
          rotate_left
          · intro W hSw
            clear hSw
            first | (go_simp; done) | (go_simp; with_reducible rfl)
          (try simp only [Act.put, List.setIfInBounds_toArray, List.set_cons_zero, List.set_cons_succ])
          refine wpAnyH_take (i := 7) (oi := { dst := some 45, op := Op.extract (Operand.tmp 38) 0, type := 25, pos := "ref.go:133", after := #[{ on := 6, ground := Ground.data }], guard := none }) (v := ?_) rfl (by kernel_rfl) (by kernel_rfl) (by kernel_rfl) (fun _ _ _ h => h) (Or.inl ⟨by rfl, ?_⟩) hHeld ?_
          rotate_left
          · intro W hSw
            clear hSw
            first | (go_simp; done) | (go_simp; with_reducible rfl)
          (try simp only [Act.put, List.setIfInBounds_toArray, List.set_cons_zero, List.set_cons_succ])
          refine wpAnyH_take (i := 8) (oi := { dst := some 46, op := Op.extract (Operand.tmp 38) 1, type := 4, pos := "ref.go:133", after := #[{ on := 6, ground := Ground.data }, { on := 10, ground := Ground.gcOnly Departure.lateStores }], guard := none }) (v := ?_) rfl (by kernel_rfl) (by kernel_rfl) (by kernel_rfl) (fun _ _ _ h => h) (Or.inl ⟨by rfl, ?_⟩) hHeld ?_
          rotate_left
          · intro W hSw
            clear hSw
            first | (go_simp; done) | (go_simp; with_reducible rfl)
          (try simp only [Act.put, List.setIfInBounds_toArray, List.set_cons_zero, List.set_cons_succ])
          refine wpAnyH_ready (rs := [9]) (by kernel_rfl) (by simp) ?_
          refine AllReadyH.cons (o := { dst := some 7, op := Op.alloc 25, type := 0, pos := "ref.go:133", after := #[], guard := none }) rfl (fun K hK => ?_) AllReadyH.nil
          go_simp
          clear hHeld
          refine hK.out _ _ ?_ (fun hHeld => ?_)
          · exact ⟨Rw.alloc RA4.out _, World.rangeAt_alloc HR4.out _⟩
          clear hK K
          (try simp only [Act.put, List.setIfInBounds_toArray, List.set_cons_zero, List.set_cons_succ])
          obtain ⟨Yb, hYb⟩ : ∃ X, X = u4.heap.size := ⟨_, rfl⟩
          rw [← hYb]
          clear hHeld
          refine name_h (fun W => Rw W w.heap.size ck 25 ∧ Rw W (w.heap.size + 1) zeroSC 25 ∧ Rw W Yb zeroSC 25 ∧ W.rangeAt b (o + 0 * 19) rc.toList ∧ Below w.heap.size w W) ⟨Rw.alloc RA4.out _, Rw.alloc RZ4.out _, by rw [hYb]; exact Rw.new _ _ _, World.rangeAt_alloc HR4.out _, Below.alloc BT4.out BT4.out.size _⟩ ?_
          have HYL : Hid (w.heap.size + 1 < Yb) := Lib.hid (by rw [hYb]; exact RZ4.out.lt)
          clear hYb
          rintro u5 ⟨h1, h2, h3, h4, h5⟩
          have hHeld : Rw u5 w.heap.size ck 25 ∧ u5.rangeAt b (o + 0 * 19) rc.toList := ⟨h1, h4⟩
          have RA5 := Lib.hid h1
          have RZ5 := Lib.hid h2
          have RY5 := Lib.hid h3
          have HR5 := Lib.hid h4
          have BT5 := Lib.hid h5
          clear h1 h2 h3 h4 h5
          refine wpAnyH_ready (rs := [10]) (by kernel_rfl) (by simp) ?_
          refine AllReadyH.cons (o := { dst := none, op := Op.store 25 (Operand.tmp 7) (Operand.tmp 45), type := 0, pos := "ref.go:133", after := #[{ on := 9, ground := Ground.data }, { on := 7, ground := Ground.data }, { on := 5, ground := Ground.chain }, { on := 0, ground := Ground.phase }, { on := 1, ground := Ground.phase }, { on := 2, ground := Ground.phase }, { on := 3, ground := Ground.phase }, { on := 4, ground := Ground.phase }, { on := 5, ground := Ground.phase }, { on := 6, ground := Ground.phase }, { on := 7, ground := Ground.phase }, { on := 8, ground := Ground.textOnly Departure.lateStores }, { on := 9, ground := Ground.phase }], guard := none }) rfl (fun K hK => ?_) AllReadyH.nil
          rw [if_pos (by rfl)]
          refine wp_store_row 25 (.tmp 7) (.tmp 45) rfl Yb xc rfl rfl 25 _ RY5.out (by rw [HZ_xc.out]; exact i12) (by rw [HZ_xc.out]; rfl) H1_xc.out ?_
          clear hHeld
          have RA6 : Hid (Rw (u5.setRow Yb xc) w.heap.size ck 25) := Lib.hid ((setRow_block _ _ _ _ (by have := HYL.out; omega)).trans RA5.out)
          have RZ6 : Hid (Rw (u5.setRow Yb xc) (w.heap.size + 1) zeroSC 25) := Lib.hid ((setRow_block _ _ _ _ (by have := HYL.out; omega)).trans RZ5.out)
          have RY6 : Hid (Rw (u5.setRow Yb xc) Yb xc 25) := Lib.hid (RY5.out.set xc)
          have BT6 : Hid (Below w.heap.size w (u5.setRow Yb xc)) := Lib.hid (below_setRow BT5.out (by have := HYL.out; omega) xc)
          have HR6 : Hid ((u5.setRow Yb xc).rangeAt b (o + 0 * 19) rc.toList) := Lib.hid (rangeAt_under (HRS.out 0 hlt |> fun h => by rw [← HE_rc.out] at h; exact h) BT6.out HBL.out)
          refine hK.out _ _ ?_ (fun hHeld => ?_)
          · exact ⟨RA6.out, HR6.out⟩
          clear hK K
          (try simp only [Act.put])
          refine wpAnyH_take (i := 11) (oi := { dst := some 8, op := Op.assign (Operand.tmp 46), type := 4, pos := "ref.go:133", after := #[{ on := 8, ground := Ground.data }, { on := 10, ground := Ground.chain }, { on := 0, ground := Ground.phase }, { on := 1, ground := Ground.phase }, { on := 2, ground := Ground.phase }, { on := 3, ground := Ground.phase }, { on := 4, ground := Ground.phase }, { on := 5, ground := Ground.phase }, { on := 6, ground := Ground.phase }, { on := 7, ground := Ground.phase }, { on := 8, ground := Ground.phase }, { on := 9, ground := Ground.phase }, { on := 10, ground := Ground.phase }], guard := none }) (v := ?_) rfl (by kernel_rfl) (by kernel_rfl) (by kernel_rfl) (fun _ _ _ h => h) (Or.inl ⟨by rfl, ?_⟩) hHeld ?_
          rotate_left
          · intro W hSw
            clear hSw
            first | (go_simp; done) | (go_simp; with_reducible rfl)
          (try simp only [Act.put, List.setIfInBounds_toArray, List.set_cons_zero, List.set_cons_succ])
          refine wpAnyH_done (by kernel_rfl) ?_ _
          obtain ⟨u6, hu6⟩ : ∃ W, W = u5.setRow Yb xc := ⟨_, rfl⟩
          rw [← hu6] at RA6 RZ6 RY6 BT6 ⊢
          clear hu6 hHeld HR6 RA5 RZ5 RY5 BT5
          cases xb with
          | false =>
            have HE : Hid (allS sk rs = (sk, 0)) := Lib.hid (by rw [HP.out, drop_at (k := 0) hlt, runS_no (by rw [← HX.out, ← HXB.out])]; unfold addN; simp)
            have ZF := Lib.hid (RZ6.out.set ck)
            have BF := Lib.hid (below_setRow BT6.out (by omega) (b := w.heap.size + 1) ck)
            go_upto_region 10 with (fail)
            go_wp2_with (first | (refine wpList_load_row rfl 25 (.tmp 2) rfl w.heap.size rfl 25 ck (0, 0) _ RA6.out Try.underlying25 rfl (by rw [HZ_ck.out]; exact i12) ?_) | (refine wpList_plain rfl fun _ hK => wp_store_row 25 (.tmp 4) (.tmp 49) rfl (w.heap.size + 1) ck rfl rfl 25 _ RZ6.out (by rw [HZ_ck.out]; exact i12) (by rw [HZ_ck.out]; rfl) H1_ck.out (hK _ _ ?_); clear hK))
            (try simp only [Exit.inBlock, Exit.then])
            refine bodyPost_ret (results_cell_tmp rfl _ _ (w.heap.size + 1) 25 ck (0, 0) _ rfl ZF.out Try.underlying25 rfl (by rw [HZ_ck.out]; exact i12)) rfl ?_
            exact ⟨by rw [HE.out, HE_ck.out]; rfl, BF.out⟩
          | true =>
            have HN : Hid (allS sk rs = addN (0 + 1) (runS x.1 (rs.drop (0 + 1)))) := Lib.hid (by rw [HP.out, drop_at (k := 0) hlt, runS_yes (by rw [← HX.out, ← HXB.out]), ← HX.out, addN_add])
            go_upto_region 11 with (fail)
            go_upto_region 3 with (first | (refine wpList_load_row rfl 25 (.tmp 7) rfl Yb rfl 25 xc (0, 0) _ RY6.out Try.underlying25 rfl (by rw [HZ_xc.out]; exact i12) ?_) | (refine wpList_plain rfl fun _ hK => wp_store_row 25 (.tmp 2) (.tmp 51) rfl w.heap.size xc rfl rfl 25 _ RA6.out (by rw [HZ_xc.out]; exact i12) (by rw [HZ_xc.out]; first | exact HZ_ck.out | exact HZ_ck.out.symm) H1_xc.out (hK _ _ ?_); clear hK))
            refine name_w (fun W => Rw W w.heap.size (stC x.1) 25 ∧ Rw W (w.heap.size + 1) zeroSC 25 ∧ Below w.heap.size w W) ⟨by rw [← HE_xc.out]; exact RA6.out.set xc, (setRow_block _ _ _ _ (by omega)).trans RZ6.out, below_setRow BT6.out (Nat.le_refl _) xc⟩ ?_
            rintro u7 ⟨h1, h2, h3⟩
            have RA7 := Lib.hid h1
            have RZ7 := Lib.hid h2
            have BT7 := Lib.hid h3
            clear h1 h2 h3 RA6 RZ6 RY6 BT6
            go_wp2
            go_roundg (rs.length - (0 + 1))
            case measure => have := HG.out; omega
            case rel => exact ⟨0 + 1, x.1, Lib.hid rfl, by omega, by simp, Lib.hid (Or.inr ⟨by omega, HN.out⟩), RA7, RZ7, BT7⟩
        · go_simp
          refine hK.out _ _ ?_ (fun hHeld => ?_)
          · exact ⟨Rw.alloc RAk.out _, World.rangeAt_alloc HRG.out _⟩
          clear hK K
          (try simp only [Act.put, List.setIfInBounds_toArray, List.set_cons_zero, List.set_cons_succ])
          obtain ⟨Yb, hYb⟩ : ∃ X, X = wr.heap.size := ⟨_, rfl⟩
          rw [← hYb]
          clear hHeld
          refine name_h (fun W => Rw W w.heap.size ck 25 ∧ Rw W (w.heap.size + 1) zeroSC 25 ∧ Rw W Yb zeroSC 25 ∧ W.rangeAt b (o + 0 * 19) rc.toList ∧ Below w.heap.size w W) ⟨Rw.alloc RAk.out _, Rw.alloc RZk.out _, by rw [hYb]; exact Rw.new _ _ _, World.rangeAt_alloc HRG.out _, Below.alloc (below_drew BTk.out) BTk.out.size _⟩ ?_
          have HYL : Hid (w.heap.size + 1 < Yb) := Lib.hid (by rw [hYb]; exact RZk.out.lt)
          clear hYb
          rintro u4 ⟨h1, h2, h3, h4, h5⟩
          have hHeld : Rw u4 w.heap.size ck 25 ∧ u4.rangeAt b (o + 0 * 19) rc.toList := ⟨h1, h4⟩
          have RA4 := Lib.hid h1
          have RZ4 := Lib.hid h2
          have RY4 := Lib.hid h3
          have HR4 := Lib.hid h4
          have BT4 := Lib.hid h5
          clear h1 h2 h3 h4 h5
          refine wpAnyH_ready (rs := [5]) (by kernel_rfl) (by simp) ?_
          refine AllReadyH.cons (o := { dst := some 44, op := Op.call { callee := Callee.value (Operand.func 12), args := #[Operand.tmp 39, Operand.tmp 43], argTypes := #[25, 27] }, type := 28, pos := "ref.go:133", after := #[{ on := 0, ground := Ground.data }, { on := 4, ground := Ground.data }], guard := none }) rfl (fun K hK => ?_) AllReadyH.nil
          go_simp
          refine (HMS.out _).mono ?_
          rintro e u5 ⟨rfl, hb⟩
          have RA5 := Lib.hid (RA4.out.under hb RA4.out.lt)
          have RZ5 := Lib.hid (RZ4.out.under hb RZ4.out.lt)
          have RY5 := Lib.hid (RY4.out.under hb RY4.out.lt)
          have HR5 := Lib.hid (rangeAt_under HR4.out hb (Nat.lt_of_lt_of_le HBL.out BT4.out.size))
          have BT5 := Lib.hid (BT4.out.trans (hb.mono BT4.out.size))
          clear hb hHeld
          refine hK.out _ _ ?_ (fun hHeld => ?_)
          · exact ⟨RA5.out, HR5.out⟩
          clear hK K
          (try simp only [Act.put, List.setIfInBounds_toArray, List.set_cons_zero, List.set_cons_succ])
          refine wpAnyH_take (i := 6) (oi := { dst := some 38, op := Op.move (Operand.tmp 44), type := 28, pos := "ref.go:133", after := #[{ on := 5, ground := Ground.data }], guard := none }) (v := ?_) rfl (by kernel_rfl) (by kernel_rfl) (by kernel_rfl) (fun _ _ _ h => h) (Or.inl ⟨by rfl, ?_⟩) hHeld ?_
          rotate_left
          · intro W hSw
            clear hSw
            first | (go_simp; done) | (go_simp; with_reducible rfl)
          (try simp only [Act.put, List.setIfInBounds_toArray, List.set_cons_zero, List.set_cons_succ])
          refine wpAnyH_take (i := 7) (oi := { dst := some 45, op := Op.extract (Operand.tmp 38) 0, type := 25, pos := "ref.go:133", after := #[{ on := 6, ground := Ground.data }], guard := none }) (v := ?_) rfl (by kernel_rfl) (by kernel_rfl) (by kernel_rfl) (fun _ _ _ h => h) (Or.inl ⟨by rfl, ?_⟩) hHeld ?_
          rotate_left
          · intro W hSw
            clear hSw
            first | (go_simp; done) | (go_simp; with_reducible rfl)
          (try simp only [Act.put, List.setIfInBounds_toArray, List.set_cons_zero, List.set_cons_succ])
          refine wpAnyH_take (i := 8) (oi := { dst := some 46, op := Op.extract (Operand.tmp 38) 1, type := 4, pos := "ref.go:133", after := #[{ on := 6, ground := Ground.data }, { on := 10, ground := Ground.gcOnly Departure.lateStores }], guard := none }) (v := ?_) rfl (by kernel_rfl) (by kernel_rfl) (by kernel_rfl) (fun _ _ _ h => h) (Or.inl ⟨by rfl, ?_⟩) hHeld ?_
          rotate_left
          · intro W hSw
            clear hSw
            first | (go_simp; done) | (go_simp; with_reducible rfl)
          (try simp only [Act.put, List.setIfInBounds_toArray, List.set_cons_zero, List.set_cons_succ])
          refine wpAnyH_ready (rs := [10]) (by kernel_rfl) (by simp) ?_
          refine AllReadyH.cons (o := { dst := none, op := Op.store 25 (Operand.tmp 7) (Operand.tmp 45), type := 0, pos := "ref.go:133", after := #[{ on := 9, ground := Ground.data }, { on := 7, ground := Ground.data }, { on := 5, ground := Ground.chain }, { on := 0, ground := Ground.phase }, { on := 1, ground := Ground.phase }, { on := 2, ground := Ground.phase }, { on := 3, ground := Ground.phase }, { on := 4, ground := Ground.phase }, { on := 5, ground := Ground.phase }, { on := 6, ground := Ground.phase }, { on := 7, ground := Ground.phase }, { on := 8, ground := Ground.textOnly Departure.lateStores }, { on := 9, ground := Ground.phase }], guard := none }) rfl (fun K hK => ?_) AllReadyH.nil
          rw [if_pos (by rfl)]
          refine wp_store_row 25 (.tmp 7) (.tmp 45) rfl Yb xc rfl rfl 25 _ RY5.out (by rw [HZ_xc.out]; exact i12) (by rw [HZ_xc.out]; rfl) H1_xc.out ?_
          clear hHeld
          have RA6 : Hid (Rw (u5.setRow Yb xc) w.heap.size ck 25) := Lib.hid ((setRow_block _ _ _ _ (by have := HYL.out; omega)).trans RA5.out)
          have RZ6 : Hid (Rw (u5.setRow Yb xc) (w.heap.size + 1) zeroSC 25) := Lib.hid ((setRow_block _ _ _ _ (by have := HYL.out; omega)).trans RZ5.out)
          have RY6 : Hid (Rw (u5.setRow Yb xc) Yb xc 25) := Lib.hid (RY5.out.set xc)
          have BT6 : Hid (Below w.heap.size w (u5.setRow Yb xc)) := Lib.hid (below_setRow BT5.out (by have := HYL.out; omega) xc)
          have HR6 : Hid ((u5.setRow Yb xc).rangeAt b (o + 0 * 19) rc.toList) := Lib.hid (rangeAt_under (HRS.out 0 hlt |> fun h => by rw [← HE_rc.out] at h; exact h) BT6.out HBL.out)
          refine hK.out _ _ ?_ (fun hHeld => ?_)
          · exact ⟨RA6.out, HR6.out⟩
          clear hK K
          (try simp only [Act.put])
          refine wpAnyH_take (i := 11) (oi := { dst := some 8, op := Op.assign (Operand.tmp 46), type := 4, pos := "ref.go:133", after := #[{ on := 8, ground := Ground.data }, { on := 10, ground := Ground.chain }, { on := 0, ground := Ground.phase }, { on := 1, ground := Ground.phase }, { on := 2, ground := Ground.phase }, { on := 3, ground := Ground.phase }, { on := 4, ground := Ground.phase }, { on := 5, ground := Ground.phase }, { on := 6, ground := Ground.phase }, { on := 7, ground := Ground.phase }, { on := 8, ground := Ground.phase }, { on := 9, ground := Ground.phase }, { on := 10, ground := Ground.phase }], guard := none }) (v := ?_) rfl (by kernel_rfl) (by kernel_rfl) (by kernel_rfl) (fun _ _ _ h => h) (Or.inl ⟨by rfl, ?_⟩) hHeld ?_
          rotate_left
          · intro W hSw
            clear hSw
            first | (go_simp; done) | (go_simp; with_reducible rfl)
          (try simp only [Act.put, List.setIfInBounds_toArray, List.set_cons_zero, List.set_cons_succ])
          refine wpAnyH_done (by kernel_rfl) ?_ _
          obtain ⟨u6, hu6⟩ : ∃ W, W = u5.setRow Yb xc := ⟨_, rfl⟩
          rw [← hu6] at RA6 RZ6 RY6 BT6 ⊢
          clear hu6 hHeld HR6 RA5 RZ5 RY5 BT5
          cases xb with
          | false =>
            have HE : Hid (allS sk rs = (sk, 0)) := Lib.hid (by rw [HP.out, drop_at (k := 0) hlt, runS_no (by rw [← HX.out, ← HXB.out])]; unfold addN; simp)
            have ZF := Lib.hid (RZ6.out.set ck)
            have BF := Lib.hid (below_setRow BT6.out (by omega) (b := w.heap.size + 1) ck)
            go_upto_region 10 with (fail)
            go_wp2_with (first | (refine wpList_load_row rfl 25 (.tmp 2) rfl w.heap.size rfl 25 ck (0, 0) _ RA6.out Try.underlying25 rfl (by rw [HZ_ck.out]; exact i12) ?_) | (refine wpList_plain rfl fun _ hK => wp_store_row 25 (.tmp 4) (.tmp 49) rfl (w.heap.size + 1) ck rfl rfl 25 _ RZ6.out (by rw [HZ_ck.out]; exact i12) (by rw [HZ_ck.out]; rfl) H1_ck.out (hK _ _ ?_); clear hK))
            (try simp only [Exit.inBlock, Exit.then])
            refine bodyPost_ret (results_cell_tmp rfl _ _ (w.heap.size + 1) 25 ck (0, 0) _ rfl ZF.out Try.underlying25 rfl (by rw [HZ_ck.out]; exact i12)) rfl ?_
            exact ⟨by rw [HE.out, HE_ck.out]; rfl, BF.out⟩
          | true =>
            have HN : Hid (allS sk rs = addN (0 + 1) (runS x.1 (rs.drop (0 + 1)))) := Lib.hid (by rw [HP.out, drop_at (k := 0) hlt, runS_yes (by rw [← HX.out, ← HXB.out]), ← HX.out, addN_add])
            go_upto_region 11 with (fail)
            go_upto_region 3 with (first | (refine wpList_load_row rfl 25 (.tmp 7) rfl Yb rfl 25 xc (0, 0) _ RY6.out Try.underlying25 rfl (by rw [HZ_xc.out]; exact i12) ?_) | (refine wpList_plain rfl fun _ hK => wp_store_row 25 (.tmp 2) (.tmp 51) rfl w.heap.size xc rfl rfl 25 _ RA6.out (by rw [HZ_xc.out]; exact i12) (by rw [HZ_xc.out]; first | exact HZ_ck.out | exact HZ_ck.out.symm) H1_xc.out (hK _ _ ?_); clear hK))
            refine name_w (fun W => Rw W w.heap.size (stC x.1) 25 ∧ Rw W (w.heap.size + 1) zeroSC 25 ∧ Below w.heap.size w W) ⟨by rw [← HE_xc.out]; exact RA6.out.set xc, (setRow_block _ _ _ _ (by omega)).trans RZ6.out, below_setRow BT6.out (Nat.le_refl _) xc⟩ ?_
            rintro u7 ⟨h1, h2, h3⟩
            have RA7 := Lib.hid h1
            have RZ7 := Lib.hid h2
            have BT7 := Lib.hid h3
            clear h1 h2 h3 RA6 RZ6 RY6 BT6
            go_wp2
            go_roundg (rs.length - (0 + 1))
            case measure => have := HG.out; omega
            case rel => exact ⟨0 + 1, x.1, Lib.hid rfl, by omega, by simp, Lib.hid (Or.inr ⟨by omega, HN.out⟩), RA7, RZ7, BT7⟩
      have HP : Hid (allS s rs = addN k (runS sk (rs.drop k))) := Lib.hid (by
        rcases HI.out with h | h
        · exact absurd h.1 h0
        · exact h.2)
      have g1 : ((k : Int) == 0) = false := by simpa using h0
      have g2 : (k == 0) = false := by simpa using h0
      have g3 : decide (k = 0) = false := by simpa using h0
      obtain ⟨x, hx⟩ : ∃ x, x = stepS sk rs[k] := ⟨_, rfl⟩
      have HX := Lib.hid hx
      obtain ⟨xb, hxb⟩ : ∃ b, b = x.2 := ⟨_, rfl⟩
      have HXB := Lib.hid hxb
      obtain ⟨ck, hck⟩ : ∃ c, c = stC sk := ⟨_, rfl⟩
      have HE_ck := Lib.hid hck
      have HZ_ck : Hid (ck.size = 12) := Lib.hid (by rw [hck]; rfl)
      have H1_ck : Hid (ck.all (·.oneCell') = true) := Lib.hid (by rw [hck]; exact stC_one _)
      obtain ⟨rc, hrc⟩ : ∃ c, c = recC rs[k] := ⟨_, rfl⟩
      have HE_rc := Lib.hid hrc
      have HZ_rc : Hid (rc.size = 19) := Lib.hid (by rw [hrc]; rfl)
      have H1_rc : Hid (rc.all (·.oneCell') = true) := Lib.hid (by rw [hrc]; exact recC_one _)
      obtain ⟨xc, hxc⟩ : ∃ c, c = stC x.1 := ⟨_, rfl⟩
      have HE_xc := Lib.hid hxc
      have HZ_xc : Hid (xc.size = 12) := Lib.hid (by rw [hxc]; rfl)
      have H1_xc : Hid (xc.all (·.oneCell') = true) := Lib.hid (by rw [hxc]; exact stC_one _)
      rw [← hck] at RAk
      have HRG : Hid (wr.rangeAt b (o + k * 19) rc.toList) := Lib.hid (by rw [hrc]; exact rangeAt_under (HRS.out k hlt) BTk.out HBL.out)
      have HMS : Hid (∀ W, Calls Try.prog 12 #[.agg ck, .agg rc] W fun e w' => e = .returned (.tuple #[.agg xc, .bool xb]) ∧ Below W.heap.size W w') := Lib.hid (fun W => by
        have h1 := mstep_any sk rs[k] W
        rw [← hx] at h1
        unfold StepR stV recV at h1
        rw [← hck, ← hrc, ← hxc, ← hxb] at h1
        exact h1)
      clear hx hxb hck hrc hxc
      go_upto_region 8 with (fail)
      clear g1 g2 g3
      refine wp_region_held_drew (S := fun W => Rw W w.heap.size ck 25 ∧ W.rangeAt b (o + k * 19) rc.toList) (by kernel_rfl) ⟨RAk.out, HRG.out⟩ (fun hHeld => ?_)
      refine wpAnyH_take (i := 0) (oi := { dst := some 39, op := Op.load 25 (Operand.tmp 2), type := 25, pos := "ref.go:133", after := #[], guard := none }) (v := .agg ck) rfl (by kernel_rfl) (by kernel_rfl) (by kernel_rfl) (fun _ _ _ h => h) (Or.inl ⟨by rfl, fun W hS => exec_load_row 25 (.tmp 2) rfl w.heap.size rfl 25 ck (0, 0) _ hS.1 Try.underlying25 rfl (by rw [HZ_ck.out]; exact i12)⟩) hHeld ?_
      (try simp only [Act.put, List.setIfInBounds_toArray, List.set_cons_zero, List.set_cons_succ])
      refine wpAnyH_take (i := 1) (oi := { dst := some 40, op := Op.move (Operand.tmp 1), type := 33, pos := "ref.go:133", after := #[], guard := none }) (v := ?_) rfl (by kernel_rfl) (by kernel_rfl) (by kernel_rfl) (fun _ _ _ h => h) (Or.inl ⟨by rfl, ?_⟩) hHeld ?_
      rotate_left
      · intro W hSw
        clear hSw
        first | (go_simp; done) | (go_simp; with_reducible rfl)
      (try simp only [Act.put, List.setIfInBounds_toArray, List.set_cons_zero, List.set_cons_succ])
      refine wpAnyH_take (i := 2) (oi := { dst := some 41, op := Op.move (Operand.tmp 6), type := 3, pos := "ref.go:133", after := #[], guard := none }) (v := ?_) rfl (by kernel_rfl) (by kernel_rfl) (by kernel_rfl) (fun _ _ _ h => h) (Or.inl ⟨by rfl, ?_⟩) hHeld ?_
      rotate_left
      · intro W hSw
        clear hSw
        first | (go_simp; done) | (go_simp; with_reducible rfl)
      (try simp only [Act.put, List.setIfInBounds_toArray, List.set_cons_zero, List.set_cons_succ])
      refine wpAnyH_take (i := 3) (oi := { dst := some 42, op := Op.indexAddr 33 (Operand.tmp 40) (Operand.tmp 41), type := 0, pos := "ref.go:133", after := #[{ on := 1, ground := Ground.data }, { on := 2, ground := Ground.data }], guard := none }) (v := ?_) rfl (by kernel_rfl) (by kernel_rfl) (by kernel_rfl) (fun _ _ _ h => h) (Or.inl ⟨by rfl, ?_⟩) hHeld ?_
      rotate_left
      · intro W hSw
        clear hSw
        first | (go_simp; done) | (go_simp; with_reducible rfl)
      (try simp only [Act.put, List.setIfInBounds_toArray, List.set_cons_zero, List.set_cons_succ])
      refine wpAnyH_take (i := 4) (oi := { dst := some 43, op := Op.load 27 (Operand.tmp 42), type := 27, pos := "ref.go:133", after := #[{ on := 3, ground := Ground.data }], guard := none }) (v := .agg rc) rfl (by kernel_rfl) (by kernel_rfl) (by kernel_rfl) (fun _ _ _ h => h) (yields_mid (by rfl) 27 (.tmp 42) rfl b (o + k * 19) rfl rc _ (fun W hS => hS.2) Try.underlying27 rfl (by rw [HZ_rc.out]; exact i19)) hHeld ?_
      (try simp only [Act.put, List.setIfInBounds_toArray, List.set_cons_zero, List.set_cons_succ])
      refine wpAnyH_ready (rs := [5, 9]) (by kernel_rfl) (by simp) ?_
      refine AllReadyH.cons (o := { dst := some 44, op := Op.call { callee := Callee.value (Operand.func 12), args := #[Operand.tmp 39, Operand.tmp 43], argTypes := #[25, 27] }, type := 28, pos := "ref.go:133", after := #[{ on := 0, ground := Ground.data }, { on := 4, ground := Ground.data }], guard := none }) rfl (fun K hK => ?_) (AllReadyH.cons (o := { dst := some 7, op := Op.alloc 25, type := 0, pos := "ref.go:133", after := #[], guard := none }) rfl (fun K hK => ?_) AllReadyH.nil)
      · go_simp
        refine (HMS.out _).mono ?_
        rintro e u4 ⟨rfl, hb⟩
        have RA4 := Lib.hid (Rw.under (W := wr.drew) RAk.out hb RAk.out.lt)
        have RZ4 := Lib.hid (Rw.under (W := wr.drew) RZk.out hb RZk.out.lt)
        have HR4 := Lib.hid (rangeAt_under (W := wr.drew) HRG.out hb (Nat.lt_of_lt_of_le HBL.out BTk.out.size))
        have BT4 := Lib.hid ((below_drew BTk.out).trans (hb.mono BTk.out.size))
        clear hb hHeld
        refine hK.out _ _ ?_ (fun hHeld => ?_)
        · exact ⟨RA4.out, HR4.out⟩
        clear hK K
        (try simp only [Act.put, List.setIfInBounds_toArray, List.set_cons_zero, List.set_cons_succ])
        refine wpAnyH_take (i := 6) (oi := { dst := some 38, op := Op.move (Operand.tmp 44), type := 28, pos := "ref.go:133", after := #[{ on := 5, ground := Ground.data }], guard := none }) (v := ?_) rfl (by kernel_rfl) (by kernel_rfl) (by kernel_rfl) (fun _ _ _ h => h) (Or.inl ⟨by rfl, ?_⟩) hHeld ?_
        rotate_left
        · intro W hSw
          clear hSw
          first | (go_simp; done) | (go_simp; with_reducible rfl)
        (try simp only [Act.put, List.setIfInBounds_toArray, List.set_cons_zero, List.set_cons_succ])
        refine wpAnyH_take (i := 7) (oi := { dst := some 45, op := Op.extract (Operand.tmp 38) 0, type := 25, pos := "ref.go:133", after := #[{ on := 6, ground := Ground.data }], guard := none }) (v := ?_) rfl (by kernel_rfl) (by kernel_rfl) (by kernel_rfl) (fun _ _ _ h => h) (Or.inl ⟨by rfl, ?_⟩) hHeld ?_
        rotate_left
        · intro W hSw
          clear hSw
          first | (go_simp; done) | (go_simp; with_reducible rfl)
        (try simp only [Act.put, List.setIfInBounds_toArray, List.set_cons_zero, List.set_cons_succ])
        refine wpAnyH_take (i := 8) (oi := { dst := some 46, op := Op.extract (Operand.tmp 38) 1, type := 4, pos := "ref.go:133", after := #[{ on := 6, ground := Ground.data }, { on := 10, ground := Ground.gcOnly Departure.lateStores }], guard := none }) (v := ?_) rfl (by kernel_rfl) (by kernel_rfl) (by kernel_rfl) (fun _ _ _ h => h) (Or.inl ⟨by rfl, ?_⟩) hHeld ?_
        rotate_left
        · intro W hSw
          clear hSw
          first | (go_simp; done) | (go_simp; with_reducible rfl)
        (try simp only [Act.put, List.setIfInBounds_toArray, List.set_cons_zero, List.set_cons_succ])
        refine wpAnyH_ready (rs := [9]) (by kernel_rfl) (by simp) ?_
        refine AllReadyH.cons (o := { dst := some 7, op := Op.alloc 25, type := 0, pos := "ref.go:133", after := #[], guard := none }) rfl (fun K hK => ?_) AllReadyH.nil
        go_simp
        clear hHeld
        refine hK.out _ _ ?_ (fun hHeld => ?_)
        · exact ⟨Rw.alloc RA4.out _, World.rangeAt_alloc HR4.out _⟩
        clear hK K
        (try simp only [Act.put, List.setIfInBounds_toArray, List.set_cons_zero, List.set_cons_succ])
        obtain ⟨Yb, hYb⟩ : ∃ X, X = u4.heap.size := ⟨_, rfl⟩
        rw [← hYb]
        clear hHeld
        refine name_h (fun W => Rw W w.heap.size ck 25 ∧ Rw W (w.heap.size + 1) zeroSC 25 ∧ Rw W Yb zeroSC 25 ∧ W.rangeAt b (o + k * 19) rc.toList ∧ Below w.heap.size w W) ⟨Rw.alloc RA4.out _, Rw.alloc RZ4.out _, by rw [hYb]; exact Rw.new _ _ _, World.rangeAt_alloc HR4.out _, Below.alloc BT4.out BT4.out.size _⟩ ?_
        have HYL : Hid (w.heap.size + 1 < Yb) := Lib.hid (by rw [hYb]; exact RZ4.out.lt)
        clear hYb
        rintro u5 ⟨h1, h2, h3, h4, h5⟩
        have hHeld : Rw u5 w.heap.size ck 25 ∧ u5.rangeAt b (o + k * 19) rc.toList := ⟨h1, h4⟩
        have RA5 := Lib.hid h1
        have RZ5 := Lib.hid h2
        have RY5 := Lib.hid h3
        have HR5 := Lib.hid h4
        have BT5 := Lib.hid h5
        clear h1 h2 h3 h4 h5
        refine wpAnyH_ready (rs := [10]) (by kernel_rfl) (by simp) ?_
        refine AllReadyH.cons (o := { dst := none, op := Op.store 25 (Operand.tmp 7) (Operand.tmp 45), type := 0, pos := "ref.go:133", after := #[{ on := 9, ground := Ground.data }, { on := 7, ground := Ground.data }, { on := 5, ground := Ground.chain }, { on := 0, ground := Ground.phase }, { on := 1, ground := Ground.phase }, { on := 2, ground := Ground.phase }, { on := 3, ground := Ground.phase }, { on := 4, ground := Ground.phase }, { on := 5, ground := Ground.phase }, { on := 6, ground := Ground.phase }, { on := 7, ground := Ground.phase }, { on := 8, ground := Ground.textOnly Departure.lateStores }, { on := 9, ground := Ground.phase }], guard := none }) rfl (fun K hK => ?_) AllReadyH.nil
        rw [if_pos (by rfl)]
        refine wp_store_row 25 (.tmp 7) (.tmp 45) rfl Yb xc rfl rfl 25 _ RY5.out (by rw [HZ_xc.out]; exact i12) (by rw [HZ_xc.out]; rfl) H1_xc.out ?_
        clear hHeld
        have RA6 : Hid (Rw (u5.setRow Yb xc) w.heap.size ck 25) := Lib.hid ((setRow_block _ _ _ _ (by have := HYL.out; omega)).trans RA5.out)
        have RZ6 : Hid (Rw (u5.setRow Yb xc) (w.heap.size + 1) zeroSC 25) := Lib.hid ((setRow_block _ _ _ _ (by have := HYL.out; omega)).trans RZ5.out)
        have RY6 : Hid (Rw (u5.setRow Yb xc) Yb xc 25) := Lib.hid (RY5.out.set xc)
        have BT6 : Hid (Below w.heap.size w (u5.setRow Yb xc)) := Lib.hid (below_setRow BT5.out (by have := HYL.out; omega) xc)
        have HR6 : Hid ((u5.setRow Yb xc).rangeAt b (o + k * 19) rc.toList) := Lib.hid (rangeAt_under (HRS.out k hlt |> fun h => by rw [← HE_rc.out] at h; exact h) BT6.out HBL.out)
        refine hK.out _ _ ?_ (fun hHeld => ?_)
        · exact ⟨RA6.out, HR6.out⟩
        clear hK K
        (try simp only [Act.put])
        refine wpAnyH_take (i := 11) (oi := { dst := some 8, op := Op.assign (Operand.tmp 46), type := 4, pos := "ref.go:133", after := #[{ on := 8, ground := Ground.data }, { on := 10, ground := Ground.chain }, { on := 0, ground := Ground.phase }, { on := 1, ground := Ground.phase }, { on := 2, ground := Ground.phase }, { on := 3, ground := Ground.phase }, { on := 4, ground := Ground.phase }, { on := 5, ground := Ground.phase }, { on := 6, ground := Ground.phase }, { on := 7, ground := Ground.phase }, { on := 8, ground := Ground.phase }, { on := 9, ground := Ground.phase }, { on := 10, ground := Ground.phase }], guard := none }) (v := ?_) rfl (by kernel_rfl) (by kernel_rfl) (by kernel_rfl) (fun _ _ _ h => h) (Or.inl ⟨by rfl, ?_⟩) hHeld ?_
        rotate_left
        · intro W hSw
          clear hSw
          first | (go_simp; done) | (go_simp; with_reducible rfl)
        (try simp only [Act.put, List.setIfInBounds_toArray, List.set_cons_zero, List.set_cons_succ])
        refine wpAnyH_done (by kernel_rfl) ?_ _
        obtain ⟨u6, hu6⟩ : ∃ W, W = u5.setRow Yb xc := ⟨_, rfl⟩
        rw [← hu6] at RA6 RZ6 RY6 BT6 ⊢
        clear hu6 hHeld HR6 RA5 RZ5 RY5 BT5
        cases xb with
        | false =>
          have HE : Hid (allS s rs = (sk, k)) := Lib.hid (by rw [HP.out, drop_at hlt, runS_no (by rw [← HX.out, ← HXB.out])]; unfold addN; simp)
          have ZF := Lib.hid (RZ6.out.set ck)
          have BF := Lib.hid (below_setRow BT6.out (by omega) (b := w.heap.size + 1) ck)
          go_upto_region 10 with (fail)
          go_wp2_with (first | (refine wpList_load_row rfl 25 (.tmp 2) rfl w.heap.size rfl 25 ck (0, 0) _ RA6.out Try.underlying25 rfl (by rw [HZ_ck.out]; exact i12) ?_) | (refine wpList_plain rfl fun _ hK => wp_store_row 25 (.tmp 4) (.tmp 49) rfl (w.heap.size + 1) ck rfl rfl 25 _ RZ6.out (by rw [HZ_ck.out]; exact i12) (by rw [HZ_ck.out]; rfl) H1_ck.out (hK _ _ ?_); clear hK))
          (try simp only [Exit.inBlock, Exit.then])
          refine bodyPost_ret (results_cell_tmp rfl _ _ (w.heap.size + 1) 25 ck (0, 0) _ rfl ZF.out Try.underlying25 rfl (by rw [HZ_ck.out]; exact i12)) rfl ?_
          exact ⟨by rw [HE.out, HE_ck.out]; rfl, BF.out⟩
        | true =>
          have HN : Hid (allS s rs = addN (k + 1) (runS x.1 (rs.drop (k + 1)))) := Lib.hid (by rw [HP.out, drop_at hlt, runS_yes (by rw [← HX.out, ← HXB.out]), ← HX.out, addN_add])
          go_upto_region 11 with (fail)
          go_upto_region 3 with (first | (refine wpList_load_row rfl 25 (.tmp 7) rfl Yb rfl 25 xc (0, 0) _ RY6.out Try.underlying25 rfl (by rw [HZ_xc.out]; exact i12) ?_) | (refine wpList_plain rfl fun _ hK => wp_store_row 25 (.tmp 2) (.tmp 51) rfl w.heap.size xc rfl rfl 25 _ RA6.out (by rw [HZ_xc.out]; exact i12) (by rw [HZ_xc.out]; first | exact HZ_ck.out | exact HZ_ck.out.symm) H1_xc.out (hK _ _ ?_); clear hK))
          refine name_w (fun W => Rw W w.heap.size (stC x.1) 25 ∧ Rw W (w.heap.size + 1) zeroSC 25 ∧ Below w.heap.size w W) ⟨by rw [← HE_xc.out]; exact RA6.out.set xc, (setRow_block _ _ _ _ (by omega)).trans RZ6.out, below_setRow BT6.out (Nat.le_refl _) xc⟩ ?_
          rintro u7 ⟨h1, h2, h3⟩
          have RA7 := Lib.hid h1
          have RZ7 := Lib.hid h2
          have BT7 := Lib.hid h3
          clear h1 h2 h3 RA6 RZ6 RY6 BT6
          go_wp2
          go_roundg (rs.length - (k + 1))
          case measure => have := HG.out; omega
          case rel => exact ⟨k + 1, x.1, Lib.hid rfl, by omega, by simp, Lib.hid (Or.inr ⟨by omega, HN.out⟩), RA7, RZ7, BT7⟩
      · go_simp
        refine hK.out _ _ ?_ (fun hHeld => ?_)
        · exact ⟨Rw.alloc RAk.out _, World.rangeAt_alloc HRG.out _⟩
        clear hK K
        (try simp only [Act.put, List.setIfInBounds_toArray, List.set_cons_zero, List.set_cons_succ])
        obtain ⟨Yb, hYb⟩ : ∃ X, X = wr.heap.size := ⟨_, rfl⟩
        rw [← hYb]
        clear hHeld
        refine name_h (fun W => Rw W w.heap.size ck 25 ∧ Rw W (w.heap.size + 1) zeroSC 25 ∧ Rw W Yb zeroSC 25 ∧ W.rangeAt b (o + k * 19) rc.toList ∧ Below w.heap.size w W) ⟨Rw.alloc RAk.out _, Rw.alloc RZk.out _, by rw [hYb]; exact Rw.new _ _ _, World.rangeAt_alloc HRG.out _, Below.alloc (below_drew BTk.out) BTk.out.size _⟩ ?_
        have HYL : Hid (w.heap.size + 1 < Yb) := Lib.hid (by rw [hYb]; exact RZk.out.lt)
        clear hYb
        rintro u4 ⟨h1, h2, h3, h4, h5⟩
        have hHeld : Rw u4 w.heap.size ck 25 ∧ u4.rangeAt b (o + k * 19) rc.toList := ⟨h1, h4⟩
        have RA4 := Lib.hid h1
        have RZ4 := Lib.hid h2
        have RY4 := Lib.hid h3
        have HR4 := Lib.hid h4
        have BT4 := Lib.hid h5
        clear h1 h2 h3 h4 h5
        refine wpAnyH_ready (rs := [5]) (by kernel_rfl) (by simp) ?_
        refine AllReadyH.cons (o := { dst := some 44, op := Op.call { callee := Callee.value (Operand.func 12), args := #[Operand.tmp 39, Operand.tmp 43], argTypes := #[25, 27] }, type := 28, pos := "ref.go:133", after := #[{ on := 0, ground := Ground.data }, { on := 4, ground := Ground.data }], guard := none }) rfl (fun K hK => ?_) AllReadyH.nil
        go_simp
        refine (HMS.out _).mono ?_
        rintro e u5 ⟨rfl, hb⟩
        have RA5 := Lib.hid (RA4.out.under hb RA4.out.lt)
        have RZ5 := Lib.hid (RZ4.out.under hb RZ4.out.lt)
        have RY5 := Lib.hid (RY4.out.under hb RY4.out.lt)
        have HR5 := Lib.hid (rangeAt_under HR4.out hb (Nat.lt_of_lt_of_le HBL.out BT4.out.size))
        have BT5 := Lib.hid (BT4.out.trans (hb.mono BT4.out.size))
        clear hb hHeld
        refine hK.out _ _ ?_ (fun hHeld => ?_)
        · exact ⟨RA5.out, HR5.out⟩
        clear hK K
        (try simp only [Act.put, List.setIfInBounds_toArray, List.set_cons_zero, List.set_cons_succ])
        refine wpAnyH_take (i := 6) (oi := { dst := some 38, op := Op.move (Operand.tmp 44), type := 28, pos := "ref.go:133", after := #[{ on := 5, ground := Ground.data }], guard := none }) (v := ?_) rfl (by kernel_rfl) (by kernel_rfl) (by kernel_rfl) (fun _ _ _ h => h) (Or.inl ⟨by rfl, ?_⟩) hHeld ?_
        rotate_left
        · intro W hSw
          clear hSw
          first | (go_simp; done) | (go_simp; with_reducible rfl)
        (try simp only [Act.put, List.setIfInBounds_toArray, List.set_cons_zero, List.set_cons_succ])
        refine wpAnyH_take (i := 7) (oi := { dst := some 45, op := Op.extract (Operand.tmp 38) 0, type := 25, pos := "ref.go:133", after := #[{ on := 6, ground := Ground.data }], guard := none }) (v := ?_) rfl (by kernel_rfl) (by kernel_rfl) (by kernel_rfl) (fun _ _ _ h => h) (Or.inl ⟨by rfl, ?_⟩) hHeld ?_
        rotate_left
        · intro W hSw
          clear hSw
          first | (go_simp; done) | (go_simp; with_reducible rfl)
        (try simp only [Act.put, List.setIfInBounds_toArray, List.set_cons_zero, List.set_cons_succ])
        refine wpAnyH_take (i := 8) (oi := { dst := some 46, op := Op.extract (Operand.tmp 38) 1, type := 4, pos := "ref.go:133", after := #[{ on := 6, ground := Ground.data }, { on := 10, ground := Ground.gcOnly Departure.lateStores }], guard := none }) (v := ?_) rfl (by kernel_rfl) (by kernel_rfl) (by kernel_rfl) (fun _ _ _ h => h) (Or.inl ⟨by rfl, ?_⟩) hHeld ?_
        rotate_left
        · intro W hSw
          clear hSw
          first | (go_simp; done) | (go_simp; with_reducible rfl)
        (try simp only [Act.put, List.setIfInBounds_toArray, List.set_cons_zero, List.set_cons_succ])
        refine wpAnyH_ready (rs := [10]) (by kernel_rfl) (by simp) ?_
        refine AllReadyH.cons (o := { dst := none, op := Op.store 25 (Operand.tmp 7) (Operand.tmp 45), type := 0, pos := "ref.go:133", after := #[{ on := 9, ground := Ground.data }, { on := 7, ground := Ground.data }, { on := 5, ground := Ground.chain }, { on := 0, ground := Ground.phase }, { on := 1, ground := Ground.phase }, { on := 2, ground := Ground.phase }, { on := 3, ground := Ground.phase }, { on := 4, ground := Ground.phase }, { on := 5, ground := Ground.phase }, { on := 6, ground := Ground.phase }, { on := 7, ground := Ground.phase }, { on := 8, ground := Ground.textOnly Departure.lateStores }, { on := 9, ground := Ground.phase }], guard := none }) rfl (fun K hK => ?_) AllReadyH.nil
        rw [if_pos (by rfl)]
        refine wp_store_row 25 (.tmp 7) (.tmp 45) rfl Yb xc rfl rfl 25 _ RY5.out (by rw [HZ_xc.out]; exact i12) (by rw [HZ_xc.out]; rfl) H1_xc.out ?_
        clear hHeld
        have RA6 : Hid (Rw (u5.setRow Yb xc) w.heap.size ck 25) := Lib.hid ((setRow_block _ _ _ _ (by have := HYL.out; omega)).trans RA5.out)
        have RZ6 : Hid (Rw (u5.setRow Yb xc) (w.heap.size + 1) zeroSC 25) := Lib.hid ((setRow_block _ _ _ _ (by have := HYL.out; omega)).trans RZ5.out)
        have RY6 : Hid (Rw (u5.setRow Yb xc) Yb xc 25) := Lib.hid (RY5.out.set xc)
        have BT6 : Hid (Below w.heap.size w (u5.setRow Yb xc)) := Lib.hid (below_setRow BT5.out (by have := HYL.out; omega) xc)
        have HR6 : Hid ((u5.setRow Yb xc).rangeAt b (o + k * 19) rc.toList) := Lib.hid (rangeAt_under (HRS.out k hlt |> fun h => by rw [← HE_rc.out] at h; exact h) BT6.out HBL.out)
        refine hK.out _ _ ?_ (fun hHeld => ?_)
        · exact ⟨RA6.out, HR6.out⟩
        clear hK K
        (try simp only [Act.put])
        refine wpAnyH_take (i := 11) (oi := { dst := some 8, op := Op.assign (Operand.tmp 46), type := 4, pos := "ref.go:133", after := #[{ on := 8, ground := Ground.data }, { on := 10, ground := Ground.chain }, { on := 0, ground := Ground.phase }, { on := 1, ground := Ground.phase }, { on := 2, ground := Ground.phase }, { on := 3, ground := Ground.phase }, { on := 4, ground := Ground.phase }, { on := 5, ground := Ground.phase }, { on := 6, ground := Ground.phase }, { on := 7, ground := Ground.phase }, { on := 8, ground := Ground.phase }, { on := 9, ground := Ground.phase }, { on := 10, ground := Ground.phase }], guard := none }) (v := ?_) rfl (by kernel_rfl) (by kernel_rfl) (by kernel_rfl) (fun _ _ _ h => h) (Or.inl ⟨by rfl, ?_⟩) hHeld ?_
        rotate_left
        · intro W hSw
          clear hSw
          first | (go_simp; done) | (go_simp; with_reducible rfl)
        (try simp only [Act.put, List.setIfInBounds_toArray, List.set_cons_zero, List.set_cons_succ])
        refine wpAnyH_done (by kernel_rfl) ?_ _
        obtain ⟨u6, hu6⟩ : ∃ W, W = u5.setRow Yb xc := ⟨_, rfl⟩
        rw [← hu6] at RA6 RZ6 RY6 BT6 ⊢
        clear hu6 hHeld HR6 RA5 RZ5 RY5 BT5
        cases xb with
        | false =>
          have HE : Hid (allS s rs = (sk, k)) := Lib.hid (by rw [HP.out, drop_at hlt, runS_no (by rw [← HX.out, ← HXB.out])]; unfold addN; simp)
          have ZF := Lib.hid (RZ6.out.set ck)
          have BF := Lib.hid (below_setRow BT6.out (by omega) (b := w.heap.size + 1) ck)
          go_upto_region 10 with (fail)
          go_wp2_with (first | (refine wpList_load_row rfl 25 (.tmp 2) rfl w.heap.size rfl 25 ck (0, 0) _ RA6.out Try.underlying25 rfl (by rw [HZ_ck.out]; exact i12) ?_) | (refine wpList_plain rfl fun _ hK => wp_store_row 25 (.tmp 4) (.tmp 49) rfl (w.heap.size + 1) ck rfl rfl 25 _ RZ6.out (by rw [HZ_ck.out]; exact i12) (by rw [HZ_ck.out]; rfl) H1_ck.out (hK _ _ ?_); clear hK))
          (try simp only [Exit.inBlock, Exit.then])
          refine bodyPost_ret (results_cell_tmp rfl _ _ (w.heap.size + 1) 25 ck (0, 0) _ rfl ZF.out Try.underlying25 rfl (by rw [HZ_ck.out]; exact i12)) rfl ?_
          exact ⟨by rw [HE.out, HE_ck.out]; rfl, BF.out⟩
        | true =>
          have HN : Hid (allS s rs = addN (k + 1) (runS x.1 (rs.drop (k + 1)))) := Lib.hid (by rw [HP.out, drop_at hlt, runS_yes (by rw [← HX.out, ← HXB.out]), ← HX.out, addN_add])
          go_upto_region 11 with (fail)
          go_upto_region 3 with (first | (refine wpList_load_row rfl 25 (.tmp 7) rfl Yb rfl 25 xc (0, 0) _ RY6.out Try.underlying25 rfl (by rw [HZ_xc.out]; exact i12) ?_) | (refine wpList_plain rfl fun _ hK => wp_store_row 25 (.tmp 2) (.tmp 51) rfl w.heap.size xc rfl rfl 25 _ RA6.out (by rw [HZ_xc.out]; exact i12) (by rw [HZ_xc.out]; first | exact HZ_ck.out | exact HZ_ck.out.symm) H1_xc.out (hK _ _ ?_); clear hK))
          refine name_w (fun W => Rw W w.heap.size (stC x.1) 25 ∧ Rw W (w.heap.size + 1) zeroSC 25 ∧ Below w.heap.size w W) ⟨by rw [← HE_xc.out]; exact RA6.out.set xc, (setRow_block _ _ _ _ (by omega)).trans RZ6.out, below_setRow BT6.out (Nat.le_refl _) xc⟩ ?_
          rintro u7 ⟨h1, h2, h3⟩
          have RA7 := Lib.hid h1
          have RZ7 := Lib.hid h2
          have BT7 := Lib.hid h3
          clear h1 h2 h3 RA6 RZ6 RY6 BT6
          go_wp2
          go_roundg (rs.length - (k + 1))
          case measure => have := HG.out; omega
          case rel => exact ⟨k + 1, x.1, Lib.hid rfl, by omega, by simp, Lib.hid (Or.inr ⟨by omega, HN.out⟩), RA7, RZ7, BT7⟩
    have HE : Hid (allS s rs = (sk, k)) := Lib.hid (by
      rcases HI.out with h | h
      · omega
      · rw [h.2, List.drop_eq_nil_of_le (by omega), runS]
        unfold addN
        simp)
    have hke : k = rs.length := by omega
    subst hke
    obtain ⟨ck, hck⟩ : ∃ c, c = stC sk := ⟨_, rfl⟩
    have HE_ck := Lib.hid hck
    have HZ_ck : Hid (ck.size = 12) := Lib.hid (by rw [hck]; rfl)
    have H1_ck : Hid (ck.all (·.oneCell') = true) := Lib.hid (by rw [hck]; exact stC_one _)
    rw [← hck] at RAk
    clear hck
    have ZF := Lib.hid (RZk.out.set ck)
    have BF := Lib.hid (below_setRow BTk.out (by omega) (b := w.heap.size + 1) ck)
    go_upto_region 12 with (fail)
    go_wp2_with (first | (refine wpList_load_row rfl 25 (.tmp 2) rfl w.heap.size rfl 25 ck (0, 0) _ RAk.out Try.underlying25 rfl (by rw [HZ_ck.out]; exact i12) ?_) | (refine wpList_plain rfl fun _ hK => wp_store_row 25 (.tmp 4) (.tmp 52) rfl (w.heap.size + 1) ck rfl rfl 25 _ RZk.out (by rw [HZ_ck.out]; exact i12) (by rw [HZ_ck.out]; rfl) H1_ck.out (hK _ _ ?_); clear hK))
    (try simp only [Exit.inBlock, Exit.then])
    refine bodyPost_ret (results_cell_tmp rfl _ _ (w.heap.size + 1) 25 ck (0, 0) _ rfl ZF.out Try.underlying25 rfl (by rw [HZ_ck.out]; exact i12)) rfl ?_
    exact ⟨by rw [HE.out, HE_ck.out]; rfl, BF.out⟩
theorem mall_any (s : St) (rs : List Rc) (v : Value) (w : World) (h : (∃ A c, v = .slice A 0 c ∧ rs = []) ∨ ∃ b o c, v = .slice (some ⟨b, o, none⟩) rs.length c ∧ 0 < rs.length ∧ b < w.heap.size ∧ ∀ k (h : k < rs.length), w.rangeAt b (o + k * 19) (recC rs[k]).toList) (hn : rs.length ≤ 1000) : Calls Try.prog 17 #[stV s, v] w (AllR (allS s rs) w) := by
  rcases h with ⟨A, c, rfl, rfl⟩ | ⟨b, o, c, rfl, h1, h2, h3⟩
  · exact mall_none s A c w
  · exact mall_some s rs b o c w hn h1 h2 h3
end Go.Proofs.Ytoeelglmdnhknaa
