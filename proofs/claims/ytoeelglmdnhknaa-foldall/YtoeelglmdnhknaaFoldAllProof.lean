/-
  switchback's FoldAll: Any records make of any state what the document says, as far as they can come. For every input the law returns true, and each argument reads afterwards as it read before. No condition beside the row's own.
-/
import Derived.Test.YtoeelglmdnhknaaAwak
import Derived.Test.YtoeelglmdnhknaaCpy
import Derived.Deep.Cut
import Derived.Deep.RegionHeld3
namespace Go.Proofs.Ytoeelglmdnhknaa.foldAll
open Go.Proofs.Ytoeelglmdnhknaa
open Go.ChangeShapes Go.WideShapes Go.ChangeAt Go.RowKit
set_option linter.unusedVariables false

theorem fits_run : ∀ (rs : List Rc) (s : St), FitsS s → FitsS (runS s rs).1
  | [], s, h => h
  | r :: rs, s, h => by
    rw [runS]
    split
    · exact fits_run rs _ (fits_step r h)
    · exact h
theorem fits_all (s : St) (rs : List Rc) (h : FitsS s) (hr : ∀ r ∈ rs, FitsS r.st) : FitsS (allS s rs).1 := by
  cases rs with
  | nil => exact h
  | cons r rs =>
    rw [allS]
    split
    · split
      · exact fits_run rs _ (hr r (List.mem_cons_self ..))
      · exact h
    · exact fits_run (r :: rs) s h
set_option maxRecDepth 100000 in
set_option maxHeartbeats 8000000 in
theorem walk (s : St) (v : Value) (rs : List Rc) (w : World) (hs : FitsS s) (hv : RecsI w v rs) (hf : ∀ r ∈ rs, FitsR r) : Calls Try.prog 4 #[stV s, v] w (Holds w) := by
  have HFS := Lib.hid hs
  clear hs
  have HAW : Hid (∀ W, Calls Try.prog 13 #[] W fun e w' => e = .returned (.bool true) ∧ Below W.heap.size W w') := Lib.hid awake_any
  have HV := Lib.hid hv
  have HF := Lib.hid hf
  have bs0 := build0
  unfold stV
  obtain ⟨cs, hcs⟩ : ∃ c, c = stC s := ⟨_, rfl⟩
  have HE_cs := Lib.hid hcs
  have HZ_cs : Hid (cs.size = 12) := Lib.hid (by rw [hcs]; rfl)
  have H1_cs : Hid (cs.all (·.oneCell') = true) := Lib.hid (by rw [hcs]; exact stC_one _)
  rw [← hcs]
  clear hcs hv hf
  obtain ⟨n, Ad, cp, hvl, hnl⟩ : ∃ n A c, v = .slice A n c ∧ n = rs.length := by
    rcases HV.out with ⟨h | ⟨a, c, h⟩, h2⟩ | ⟨b, o, c, h, _⟩
    · exact ⟨0, none, 0, h, by rw [h2]; rfl⟩
    · exact ⟨0, _, _, h, by rw [h2]; rfl⟩
    · exact ⟨_, _, _, h, rfl⟩
  have HVL := Lib.hid hvl
  have HNL := Lib.hid hnl
  rw [hvl]
  clear hvl hnl
  go_enter Try.func4, Try.ntmps4
  go_upto_region 1 with (fail)
  refine name_w (fun W => Rw W w.heap.size cs 25 ∧ Below w.heap.size w W) ⟨Rw.new _ _ _, (Below.refl _ _).alloc (Nat.le_refl _) _⟩ ?_
  rintro u0 ⟨h0, h1⟩
  have R_A_0 := Lib.hid h0
  have BT0 := Lib.hid h1
  clear h0 h1
  go_wp2_with fail
  refine (HAW.out _).mono ?_
  rintro e u1 ⟨rfl, hb⟩
  have R_A_1 := Lib.hid (R_A_0.out.under hb R_A_0.out.lt)
  have BT1 := Lib.hid (BT0.out.trans (hb.mono BT0.out.size))
  clear hb BT0 R_A_0
  by_cases hbig : 300 < n
  case pos =>
    have f1 : decide (300 < n) = true := by simpa using hbig
    have f2 : decide ((300 : Int) < (n : Int)) = true := decide_eq_true (by omega)
    clear hbig
    go_upto_region 2 with (fail)
    clear f1 f2
    go_wp2_with fail
    refine (HAW.out _).mono ?_
    rintro e u2 ⟨rfl, hb⟩
    have R_A_2 := Lib.hid (R_A_1.out.under hb R_A_1.out.lt)
    have BT2 := Lib.hid (BT1.out.trans (hb.mono BT1.out.size))
    clear hb BT1 R_A_1
    go_wp2_with fail
    go_ret
    exact ⟨rfl, BT2.out⟩
  have HBG : Hid (rs.length ≤ 300) := Lib.hid (by rw [← HNL.out]; omega)
  have f1 : decide (300 < n) = false := by simpa using hbig
  have f2 : decide ((300 : Int) < (n : Int)) = false := decide_eq_false (by omega)
  clear hbig
  obtain ⟨x, hx⟩ : ∃ x, x = allS s rs := ⟨_, rfl⟩
  have HX := Lib.hid hx
  obtain ⟨xn, hxn⟩ : ∃ n, n = x.2 := ⟨_, rfl⟩
  obtain ⟨xc, hxc⟩ : ∃ c, c = stC x.1 := ⟨_, rfl⟩
  have HE_xc := Lib.hid hxc
  have HZ_xc : Hid (xc.size = 12) := Lib.hid (by rw [hxc]; rfl)
  have H1_xc : Hid (xc.all (·.oneCell') = true) := Lib.hid (by rw [hxc]; exact stC_one _)
  have HCL : Hid (∀ W v2, Recs W v2 ([] ++ rs) → Calls Try.prog 16 #[.agg cs, v2] W fun e w' => e = .returned (.tuple #[.agg xc, .int .i64 (xn : Int)]) ∧ Below W.heap.size W w') := Lib.hid (fun W v2 h => by
    have h1 := all_any s rs v2 W h (by have := HBG.out; omega) (fun r hr => (HF.out r hr).kind)
    rw [← hx] at h1
    unfold AllR stV at h1
    rw [← hxc, ← hxn, ← HE_cs.out] at h1
    exact h1)
  have HML : Hid (∀ W, RecsI W v rs → Calls Try.prog 17 #[.agg cs, v] W fun e w' => e = .returned (.tuple #[.agg xc, .int .i64 (xn : Int)]) ∧ Below W.heap.size W w') := Lib.hid (fun W h => by
    have h1 := mall_I s rs v W h (by have := HBG.out; omega)
    rw [← hx] at h1
    unfold AllR stV at h1
    rw [← hxc, ← hxn, ← HE_cs.out] at h1
    exact h1)
  have HFX : Hid (FitsS x.1) := Lib.hid (by rw [hx]; exact fits_all s rs HFS.out (fun r hr => (HF.out r hr).st))
  have eqX : ∀ W, (Op.equalIn 10000 25 (.agg xc) (.agg xc)).run Try.prog W = .ok true W := fun W => by rw [hxc]; exact eq25 HFX.out W
  have HNN : Hid (([] : List Rc).length + rs.length ≤ 1000) := Lib.hid (by have := HBG.out; simp; omega)
  rw [HVL.out] at HV HML
  clear hx hxn hxc
  go_upto_region 3 with (fail)
  clear f1 f2
  go_cut [5, 6] from 9 (fun sY sN W => ∃ Yb, sY = .pointer (some ⟨Yb, 0, none⟩) ∧ sN = .int .i64 (xn : Int) ∧ Rw W w.heap.size cs 25 ∧ Rw W Yb xc 25 ∧ Below w.heap.size w W)
  case first =>
    have RA_u1 := R_A_1
    have BT_u1 := BT1
    refine wp_region_held_drew (S := fun W => Rw W w.heap.size cs 25 ∧ True) (by kernel_rfl) ⟨RA_u1.out, trivial⟩ (fun hHeld => ?_)
    refine wpAnyH_take (i := 0) (oi := { dst := some 18, op := Op.load 25 (Operand.tmp 2), type := 25, pos := "law.go:32", after := #[], guard := none }) (v := .agg cs) rfl (by kernel_rfl) (by kernel_rfl) (by kernel_rfl) (fun _ _ _ h => h) (Or.inl ⟨by rfl, fun W hS => exec_load_row 25 (.tmp 2) rfl w.heap.size rfl 25 cs (0, 0) _ hS.1 Try.underlying25 rfl (by rw [HZ_cs.out]; exact i12)⟩) hHeld ?_
    (try simp only [Act.put, List.setIfInBounds_toArray, List.set_cons_zero, List.set_cons_succ])
    refine wpAnyH_take (i := 2) (oi := { dst := some 20, op := Op.move (Operand.tmp 1), type := 33, pos := "law.go:32", after := #[], guard := none }) (v := ?_) rfl (by kernel_rfl) (by kernel_rfl) (by kernel_rfl) (fun _ _ _ h => h) (Or.inl ⟨by rfl, ?_⟩) hHeld ?_
    rotate_left
    · intro W hSw
      clear hSw
      first | (go_simp; done) | (go_simp; with_reducible rfl)
    (try simp only [Act.put, List.setIfInBounds_toArray, List.set_cons_zero, List.set_cons_succ])
    refine wpAnyH_ready (rs := [1, 8]) (by kernel_rfl) (by simp) ?_
    refine AllReadyH.cons (o := { dst := some 19, op := Op.buildSlice 33 0 #[], type := 33, pos := "law.go:32", after := #[], guard := none }) rfl (fun K hK => ?_) (AllReadyH.cons (o := { dst := some 5, op := Op.alloc 25, type := 0, pos := "law.go:32", after := #[], guard := none }) rfl (fun K hK => ?_) AllReadyH.nil)
    · go_simp
      refine hK.out _ _ ?_ (fun hHeld => ?_)
      · exact ⟨Rw.alloc RA_u1.out _, trivial⟩
      clear hK K hHeld
      (try simp only [Act.put, List.setIfInBounds_toArray, List.set_cons_zero, List.set_cons_succ])
      obtain ⟨Eb, hEb⟩ : ∃ X, X = u1.heap.size := ⟨_, rfl⟩
      rw [← hEb]
      have HEB : Hid (w.heap.size ≤ Eb ∧ w.heap.size < Eb) := Lib.hid (by rw [hEb]; exact ⟨BT_u1.out.size, RA_u1.out.lt⟩)
      refine name_h (fun W => Rw W w.heap.size cs 25 ∧ W.ownsRow w.heap.size 27 19 (.slice (some ⟨Eb, 0, none⟩) 0 0) ([] : List Rc).length (flat ([] : List Rc)) ∧ Below w.heap.size w W ∧ Eb < W.heap.size) ⟨Rw.alloc RA_u1.out _, by rw [hEb]; exact own0 _ (hb := BT_u1.out.size), Below.alloc (below_drew BT_u1.out) BT_u1.out.size _, by rw [hEb]; simp⟩ ?_
      clear hEb
      clear RA_u1 BT_u1
      rintro u101 ⟨h0, h1, h2, h3⟩
      have HEL := Lib.hid h3
      clear h3
      have RA_u101 := Lib.hid h0
      have HO_u101 := Lib.hid h1
      have BT_u101 := Lib.hid h2
      have hHeld : Rw u101 w.heap.size cs 25 ∧ True := ⟨RA_u101.out, trivial⟩
      clear h0 h1 h2
      refine wpAnyH_ready (rs := [3, 8]) (by kernel_rfl) (by simp) ?_
      refine AllReadyH.cons (o := { dst := some 21, op := Op.call { callee := Callee.builtin Builtin.append, args := #[Operand.tmp 19, Operand.tmp 20], argTypes := #[33, 33] }, type := 33, pos := "law.go:32", after := #[{ on := 1, ground := Ground.data }, { on := 2, ground := Ground.data }], guard := none }) rfl (fun K hK => ?_) (AllReadyH.cons (o := { dst := some 5, op := Op.alloc 25, type := 0, pos := "law.go:32", after := #[], guard := none }) rfl (fun K hK => ?_) AllReadyH.nil)
      · obtain ⟨v2, u102, ea, hr2, hg2⟩ := append_recs HO_u101.out (HV.out.under BT_u101.out (Nat.le_refl _)) BT_u101.out.size HNN.out
        rw [if_pos (by rfl)]
        refine wp_append_is (.tmp 19) (.tmp 20) 33 rfl rfl rfl ea ?_
        clear ea
        have kp : ∀ k, k < u101.heap.size → k ≠ Eb → u102.heap[k]? = u101.heap[k]? := fun k h1 h2 => hg2.block k h1 (by intro e; injection e with e; exact h2 e)
        have RA_u102 : Hid (Rw u102 w.heap.size cs 25) := Lib.hid ((kp _ RA_u101.out.lt (Nat.ne_of_lt HEB.out.2)).trans RA_u101.out)
        have HO_u102 := Lib.hid hr2
        have BT_u102 : Hid (Below w.heap.size w u102) := Lib.hid (below_grown' BT_u101.out hg2 HEB.out.1 (Nat.le_refl _))
        clear hHeld kp hr2 hg2
        refine hK.out _ _ ?_ (fun hHeld => ?_)
        · exact ⟨RA_u102.out, trivial⟩
        clear hK K
        (try simp only [Act.put, List.setIfInBounds_toArray, List.set_cons_zero, List.set_cons_succ])
        clear RA_u101 HO_u101 BT_u101
        clear HEL
        clear HEB 
        refine wpAnyH_ready (rs := [4, 8]) (by kernel_rfl) (by simp) ?_
        refine AllReadyH.cons (o := { dst := some 22, op := Op.call { callee := Callee.value (Operand.func 16), args := #[Operand.tmp 18, Operand.tmp 21], argTypes := #[25, 33] }, type := 34, pos := "law.go:32", after := #[{ on := 0, ground := Ground.data }, { on := 3, ground := Ground.data }, { on := 3, ground := Ground.chain }], guard := none }) rfl (fun K hK => ?_) (AllReadyH.cons (o := { dst := some 5, op := Op.alloc 25, type := 0, pos := "law.go:32", after := #[], guard := none }) rfl (fun K hK => ?_) AllReadyH.nil)
        · go_simp
          refine (HCL.out _ _ HO_u102.out).mono ?_
          rintro e u103 ⟨rfl, hb⟩
          have RA_u103 := Lib.hid (RA_u102.out.under hb RA_u102.out.lt)
          have BT_u103 := Lib.hid (BT_u102.out.trans (hb.mono BT_u102.out.size))
          clear hb hHeld
          refine hK.out _ _ ?_ (fun hHeld => ?_)
          · exact ⟨RA_u103.out, trivial⟩
          clear hK K
          (try simp only [Act.put, List.setIfInBounds_toArray, List.set_cons_zero, List.set_cons_succ])
          clear RA_u102 HO_u102 BT_u102
          refine wpAnyH_take (i := 5) (oi := { dst := some 17, op := Op.move (Operand.tmp 22), type := 34, pos := "law.go:32", after := #[{ on := 4, ground := Ground.data }], guard := none }) (v := ?_) rfl (by kernel_rfl) (by kernel_rfl) (by kernel_rfl) (fun _ _ _ h => h) (Or.inl ⟨by rfl, ?_⟩) hHeld ?_
          rotate_left
          · intro W hSw
            clear hSw
            first | (go_simp; done) | (go_simp; with_reducible rfl)
          (try simp only [Act.put, List.setIfInBounds_toArray, List.set_cons_zero, List.set_cons_succ])
          refine wpAnyH_take (i := 6) (oi := { dst := some 23, op := Op.extract (Operand.tmp 17) 0, type := 25, pos := "law.go:32", after := #[{ on := 5, ground := Ground.data }], guard := none }) (v := ?_) rfl (by kernel_rfl) (by kernel_rfl) (by kernel_rfl) (fun _ _ _ h => h) (Or.inl ⟨by rfl, ?_⟩) hHeld ?_
          rotate_left
          · intro W hSw
            clear hSw
            first | (go_simp; done) | (go_simp; with_reducible rfl)
          (try simp only [Act.put, List.setIfInBounds_toArray, List.set_cons_zero, List.set_cons_succ])
          refine wpAnyH_take (i := 7) (oi := { dst := some 24, op := Op.extract (Operand.tmp 17) 1, type := 3, pos := "law.go:32", after := #[{ on := 5, ground := Ground.data }, { on := 9, ground := Ground.gcOnly Departure.lateStores }], guard := none }) (v := ?_) rfl (by kernel_rfl) (by kernel_rfl) (by kernel_rfl) (fun _ _ _ h => h) (Or.inl ⟨by rfl, ?_⟩) hHeld ?_
          rotate_left
          · intro W hSw
            clear hSw
            first | (go_simp; done) | (go_simp; with_reducible rfl)
          (try simp only [Act.put, List.setIfInBounds_toArray, List.set_cons_zero, List.set_cons_succ])
          refine wpAnyH_ready (rs := [8]) (by kernel_rfl) (by simp) ?_
          refine AllReadyH.cons (o := { dst := some 5, op := Op.alloc 25, type := 0, pos := "law.go:32", after := #[], guard := none }) rfl (fun K hK => ?_) AllReadyH.nil
          go_simp
          refine hK.out _ _ ?_ (fun hHeld => ?_)
          · exact ⟨Rw.alloc RA_u103.out _, trivial⟩
          clear hK K hHeld
          (try simp only [Act.put, List.setIfInBounds_toArray, List.set_cons_zero, List.set_cons_succ])
          obtain ⟨Yb, hYb⟩ : ∃ X, X = u103.heap.size := ⟨_, rfl⟩
          rw [← hYb]
          have HYB : Hid (w.heap.size ≤ Yb ∧ w.heap.size < Yb) := Lib.hid (by rw [hYb]; exact ⟨BT_u103.out.size, RA_u103.out.lt⟩)
          refine name_h (fun W => Rw W w.heap.size cs 25 ∧ Rw W Yb zeroSC 25 ∧ Below w.heap.size w W) ⟨Rw.alloc RA_u103.out _, by rw [hYb]; exact Rw.new _ _ _, Below.alloc BT_u103.out BT_u103.out.size _⟩ ?_
          clear hYb 
          clear RA_u103 BT_u103
          rintro u104 ⟨h0, h1, h2⟩
          have RA_u104 := Lib.hid h0
          have RY_u104 := Lib.hid h1
          have BT_u104 := Lib.hid h2
          have hHeld : Rw u104 w.heap.size cs 25 ∧ True := ⟨RA_u104.out, trivial⟩
          clear h0 h1 h2
          refine wpAnyH_ready (rs := [9]) (by kernel_rfl) (by simp) ?_
          refine AllReadyH.cons (o := { dst := none, op := Op.store 25 (Operand.tmp 5) (Operand.tmp 23), type := 0, pos := "law.go:32", after := #[{ on := 8, ground := Ground.data }, { on := 6, ground := Ground.data }, { on := 4, ground := Ground.chain }, { on := 0, ground := Ground.phase }, { on := 1, ground := Ground.phase }, { on := 2, ground := Ground.phase }, { on := 3, ground := Ground.phase }, { on := 4, ground := Ground.phase }, { on := 5, ground := Ground.phase }, { on := 6, ground := Ground.phase }, { on := 7, ground := Ground.textOnly Departure.lateStores }, { on := 8, ground := Ground.phase }], guard := none }) rfl (fun K hK => ?_) AllReadyH.nil
          rw [if_pos (by rfl)]
          refine wp_store_row 25 (.tmp 5) (.tmp 23) rfl Yb xc rfl rfl 25 _ RY_u104.out (by rw [HZ_xc.out]; exact i12) (by rw [HZ_xc.out]; rfl) H1_xc.out ?_
          clear hHeld
          have RA_f : Hid (Rw (u104.setRow Yb xc) w.heap.size cs 25) := Lib.hid ((setRow_block _ _ _ _ (Nat.ne_of_lt HYB.out.2)).trans RA_u104.out)
          have RY_f : Hid (Rw (u104.setRow Yb xc) Yb xc 25) := Lib.hid (RY_u104.out.set xc)
          have BT_f : Hid (Below w.heap.size w (u104.setRow Yb xc)) := Lib.hid (below_setRow BT_u104.out HYB.out.1 xc)
          refine hK.out _ _ ?_ (fun hHeld => ?_)
          · exact ⟨RA_f.out, trivial⟩
          clear hK K
          (try simp only [Act.put])
          refine wpAnyH_take (i := 10) (oi := { dst := some 6, op := Op.assign (Operand.tmp 24), type := 3, pos := "law.go:32", after := #[{ on := 7, ground := Ground.data }, { on := 9, ground := Ground.chain }, { on := 0, ground := Ground.phase }, { on := 1, ground := Ground.phase }, { on := 2, ground := Ground.phase }, { on := 3, ground := Ground.phase }, { on := 4, ground := Ground.phase }, { on := 5, ground := Ground.phase }, { on := 6, ground := Ground.phase }, { on := 7, ground := Ground.phase }, { on := 8, ground := Ground.phase }, { on := 9, ground := Ground.phase }], guard := none }) (v := ?_) rfl (by kernel_rfl) (by kernel_rfl) (by kernel_rfl) (fun _ _ _ h => h) (Or.inl ⟨by rfl, ?_⟩) hHeld ?_
          rotate_left
          · intro W hSw
            clear hSw
            first | (go_simp; done) | (go_simp; with_reducible rfl)
          (try simp only [Act.put, List.setIfInBounds_toArray, List.set_cons_zero, List.set_cons_succ])
          refine wpAnyH_done (by kernel_rfl) ?_ _
          go_wp2
          go_meet
          case rel => exact ⟨Yb, rfl, rfl, RA_f.out, RY_f.out, BT_f.out⟩
        · go_simp
          refine hK.out _ _ ?_ (fun hHeld => ?_)
          · exact ⟨Rw.alloc RA_u102.out _, trivial⟩
          clear hK K hHeld
          (try simp only [Act.put, List.setIfInBounds_toArray, List.set_cons_zero, List.set_cons_succ])
          obtain ⟨Yb, hYb⟩ : ∃ X, X = u102.heap.size := ⟨_, rfl⟩
          rw [← hYb]
          have HYB : Hid (w.heap.size ≤ Yb ∧ w.heap.size < Yb) := Lib.hid (by rw [hYb]; exact ⟨BT_u102.out.size, RA_u102.out.lt⟩)
          refine name_h (fun W => Rw W w.heap.size cs 25 ∧ Rw W Yb zeroSC 25 ∧ Recs W v2 (([] : List Rc) ++ rs) ∧ Below w.heap.size w W) ⟨Rw.alloc RA_u102.out _, by rw [hYb]; exact Rw.new _ _ _, HO_u102.out.under ((Below.refl _ _).alloc (Nat.le_refl _) _) (Nat.le_refl _), Below.alloc BT_u102.out BT_u102.out.size _⟩ ?_
          clear hYb 
          clear RA_u102 HO_u102 BT_u102
          rintro u105 ⟨h0, h1, h2, h3⟩
          have RA_u105 := Lib.hid h0
          have RY_u105 := Lib.hid h1
          have HO_u105 := Lib.hid h2
          have BT_u105 := Lib.hid h3
          have hHeld : Rw u105 w.heap.size cs 25 ∧ True := ⟨RA_u105.out, trivial⟩
          clear h0 h1 h2 h3
          refine wpAnyH_ready (rs := [4]) (by kernel_rfl) (by simp) ?_
          refine AllReadyH.cons (o := { dst := some 22, op := Op.call { callee := Callee.value (Operand.func 16), args := #[Operand.tmp 18, Operand.tmp 21], argTypes := #[25, 33] }, type := 34, pos := "law.go:32", after := #[{ on := 0, ground := Ground.data }, { on := 3, ground := Ground.data }, { on := 3, ground := Ground.chain }], guard := none }) rfl (fun K hK => ?_) AllReadyH.nil
          go_simp
          refine (HCL.out _ _ HO_u105.out).mono ?_
          rintro e u106 ⟨rfl, hb⟩
          have RA_u106 := Lib.hid (RA_u105.out.under hb RA_u105.out.lt)
          have RY_u106 := Lib.hid (RY_u105.out.under hb RY_u105.out.lt)
          have BT_u106 := Lib.hid (BT_u105.out.trans (hb.mono BT_u105.out.size))
          clear hb hHeld
          refine hK.out _ _ ?_ (fun hHeld => ?_)
          · exact ⟨RA_u106.out, trivial⟩
          clear hK K
          (try simp only [Act.put, List.setIfInBounds_toArray, List.set_cons_zero, List.set_cons_succ])
          clear RA_u105 RY_u105 HO_u105 BT_u105
          refine wpAnyH_take (i := 5) (oi := { dst := some 17, op := Op.move (Operand.tmp 22), type := 34, pos := "law.go:32", after := #[{ on := 4, ground := Ground.data }], guard := none }) (v := ?_) rfl (by kernel_rfl) (by kernel_rfl) (by kernel_rfl) (fun _ _ _ h => h) (Or.inl ⟨by rfl, ?_⟩) hHeld ?_
          rotate_left
          · intro W hSw
            clear hSw
            first | (go_simp; done) | (go_simp; with_reducible rfl)
          (try simp only [Act.put, List.setIfInBounds_toArray, List.set_cons_zero, List.set_cons_succ])
          refine wpAnyH_take (i := 6) (oi := { dst := some 23, op := Op.extract (Operand.tmp 17) 0, type := 25, pos := "law.go:32", after := #[{ on := 5, ground := Ground.data }], guard := none }) (v := ?_) rfl (by kernel_rfl) (by kernel_rfl) (by kernel_rfl) (fun _ _ _ h => h) (Or.inl ⟨by rfl, ?_⟩) hHeld ?_
          rotate_left
          · intro W hSw
            clear hSw
            first | (go_simp; done) | (go_simp; with_reducible rfl)
          (try simp only [Act.put, List.setIfInBounds_toArray, List.set_cons_zero, List.set_cons_succ])
          refine wpAnyH_take (i := 7) (oi := { dst := some 24, op := Op.extract (Operand.tmp 17) 1, type := 3, pos := "law.go:32", after := #[{ on := 5, ground := Ground.data }, { on := 9, ground := Ground.gcOnly Departure.lateStores }], guard := none }) (v := ?_) rfl (by kernel_rfl) (by kernel_rfl) (by kernel_rfl) (fun _ _ _ h => h) (Or.inl ⟨by rfl, ?_⟩) hHeld ?_
          rotate_left
          · intro W hSw
            clear hSw
            first | (go_simp; done) | (go_simp; with_reducible rfl)
          (try simp only [Act.put, List.setIfInBounds_toArray, List.set_cons_zero, List.set_cons_succ])
          refine wpAnyH_ready (rs := [9]) (by kernel_rfl) (by simp) ?_
          refine AllReadyH.cons (o := { dst := none, op := Op.store 25 (Operand.tmp 5) (Operand.tmp 23), type := 0, pos := "law.go:32", after := #[{ on := 8, ground := Ground.data }, { on := 6, ground := Ground.data }, { on := 4, ground := Ground.chain }, { on := 0, ground := Ground.phase }, { on := 1, ground := Ground.phase }, { on := 2, ground := Ground.phase }, { on := 3, ground := Ground.phase }, { on := 4, ground := Ground.phase }, { on := 5, ground := Ground.phase }, { on := 6, ground := Ground.phase }, { on := 7, ground := Ground.textOnly Departure.lateStores }, { on := 8, ground := Ground.phase }], guard := none }) rfl (fun K hK => ?_) AllReadyH.nil
          rw [if_pos (by rfl)]
          refine wp_store_row 25 (.tmp 5) (.tmp 23) rfl Yb xc rfl rfl 25 _ RY_u106.out (by rw [HZ_xc.out]; exact i12) (by rw [HZ_xc.out]; rfl) H1_xc.out ?_
          clear hHeld
          have RA_f : Hid (Rw (u106.setRow Yb xc) w.heap.size cs 25) := Lib.hid ((setRow_block _ _ _ _ (Nat.ne_of_lt HYB.out.2)).trans RA_u106.out)
          have RY_f : Hid (Rw (u106.setRow Yb xc) Yb xc 25) := Lib.hid (RY_u106.out.set xc)
          have BT_f : Hid (Below w.heap.size w (u106.setRow Yb xc)) := Lib.hid (below_setRow BT_u106.out HYB.out.1 xc)
          refine hK.out _ _ ?_ (fun hHeld => ?_)
          · exact ⟨RA_f.out, trivial⟩
          clear hK K
          (try simp only [Act.put])
          refine wpAnyH_take (i := 10) (oi := { dst := some 6, op := Op.assign (Operand.tmp 24), type := 3, pos := "law.go:32", after := #[{ on := 7, ground := Ground.data }, { on := 9, ground := Ground.chain }, { on := 0, ground := Ground.phase }, { on := 1, ground := Ground.phase }, { on := 2, ground := Ground.phase }, { on := 3, ground := Ground.phase }, { on := 4, ground := Ground.phase }, { on := 5, ground := Ground.phase }, { on := 6, ground := Ground.phase }, { on := 7, ground := Ground.phase }, { on := 8, ground := Ground.phase }, { on := 9, ground := Ground.phase }], guard := none }) (v := ?_) rfl (by kernel_rfl) (by kernel_rfl) (by kernel_rfl) (fun _ _ _ h => h) (Or.inl ⟨by rfl, ?_⟩) hHeld ?_
          rotate_left
          · intro W hSw
            clear hSw
            first | (go_simp; done) | (go_simp; with_reducible rfl)
          (try simp only [Act.put, List.setIfInBounds_toArray, List.set_cons_zero, List.set_cons_succ])
          refine wpAnyH_done (by kernel_rfl) ?_ _
          go_wp2
          go_meet
          case rel => exact ⟨Yb, rfl, rfl, RA_f.out, RY_f.out, BT_f.out⟩
      · go_simp
        refine hK.out _ _ ?_ (fun hHeld => ?_)
        · exact ⟨Rw.alloc RA_u101.out _, trivial⟩
        clear hK K hHeld
        (try simp only [Act.put, List.setIfInBounds_toArray, List.set_cons_zero, List.set_cons_succ])
        obtain ⟨Yb, hYb⟩ : ∃ X, X = u101.heap.size := ⟨_, rfl⟩
        rw [← hYb]
        have HYB : Hid (w.heap.size ≤ Yb ∧ w.heap.size < Yb) := Lib.hid (by rw [hYb]; exact ⟨BT_u101.out.size, RA_u101.out.lt⟩)
        have HYE : Hid (Yb ≠ Eb) := Lib.hid (by rw [hYb]; exact Nat.ne_of_gt HEL.out)
        refine name_h (fun W => Rw W w.heap.size cs 25 ∧ Rw W Yb zeroSC 25 ∧ W.ownsRow w.heap.size 27 19 (.slice (some ⟨Eb, 0, none⟩) 0 0) ([] : List Rc).length (flat ([] : List Rc)) ∧ Below w.heap.size w W) ⟨Rw.alloc RA_u101.out _, by rw [hYb]; exact Rw.new _ _ _, World.ownsRow.alloc HO_u101.out _, Below.alloc BT_u101.out BT_u101.out.size _⟩ ?_
        clear hYb HEL
        clear RA_u101 HO_u101 BT_u101
        rintro u107 ⟨h0, h1, h2, h3⟩
        have RA_u107 := Lib.hid h0
        have RY_u107 := Lib.hid h1
        have HO_u107 := Lib.hid h2
        have BT_u107 := Lib.hid h3
        have hHeld : Rw u107 w.heap.size cs 25 ∧ True := ⟨RA_u107.out, trivial⟩
        clear h0 h1 h2 h3
        refine wpAnyH_ready (rs := [3]) (by kernel_rfl) (by simp) ?_
        refine AllReadyH.cons (o := { dst := some 21, op := Op.call { callee := Callee.builtin Builtin.append, args := #[Operand.tmp 19, Operand.tmp 20], argTypes := #[33, 33] }, type := 33, pos := "law.go:32", after := #[{ on := 1, ground := Ground.data }, { on := 2, ground := Ground.data }], guard := none }) rfl (fun K hK => ?_) AllReadyH.nil
        obtain ⟨v2, u108, ea, hr2, hg2⟩ := append_recs HO_u107.out (HV.out.under BT_u107.out (Nat.le_refl _)) BT_u107.out.size HNN.out
        rw [if_pos (by rfl)]
        refine wp_append_is (.tmp 19) (.tmp 20) 33 rfl rfl rfl ea ?_
        clear ea
        have kp : ∀ k, k < u107.heap.size → k ≠ Eb → u108.heap[k]? = u107.heap[k]? := fun k h1 h2 => hg2.block k h1 (by intro e; injection e with e; exact h2 e)
        have RA_u108 : Hid (Rw u108 w.heap.size cs 25) := Lib.hid ((kp _ RA_u107.out.lt (Nat.ne_of_lt HEB.out.2)).trans RA_u107.out)
        have RY_u108 : Hid (Rw u108 Yb zeroSC 25) := Lib.hid ((kp _ RY_u107.out.lt HYE.out).trans RY_u107.out)
        have HO_u108 := Lib.hid hr2
        have BT_u108 : Hid (Below w.heap.size w u108) := Lib.hid (below_grown' BT_u107.out hg2 HEB.out.1 (Nat.le_refl _))
        clear hHeld kp hr2 hg2
        refine hK.out _ _ ?_ (fun hHeld => ?_)
        · exact ⟨RA_u108.out, trivial⟩
        clear hK K
        (try simp only [Act.put, List.setIfInBounds_toArray, List.set_cons_zero, List.set_cons_succ])
        clear RA_u107 RY_u107 HO_u107 BT_u107
        clear HEB HYE
        refine wpAnyH_ready (rs := [4]) (by kernel_rfl) (by simp) ?_
        refine AllReadyH.cons (o := { dst := some 22, op := Op.call { callee := Callee.value (Operand.func 16), args := #[Operand.tmp 18, Operand.tmp 21], argTypes := #[25, 33] }, type := 34, pos := "law.go:32", after := #[{ on := 0, ground := Ground.data }, { on := 3, ground := Ground.data }, { on := 3, ground := Ground.chain }], guard := none }) rfl (fun K hK => ?_) AllReadyH.nil
        go_simp
        refine (HCL.out _ _ HO_u108.out).mono ?_
        rintro e u109 ⟨rfl, hb⟩
        have RA_u109 := Lib.hid (RA_u108.out.under hb RA_u108.out.lt)
        have RY_u109 := Lib.hid (RY_u108.out.under hb RY_u108.out.lt)
        have BT_u109 := Lib.hid (BT_u108.out.trans (hb.mono BT_u108.out.size))
        clear hb hHeld
        refine hK.out _ _ ?_ (fun hHeld => ?_)
        · exact ⟨RA_u109.out, trivial⟩
        clear hK K
        (try simp only [Act.put, List.setIfInBounds_toArray, List.set_cons_zero, List.set_cons_succ])
        clear RA_u108 RY_u108 HO_u108 BT_u108
        refine wpAnyH_take (i := 5) (oi := { dst := some 17, op := Op.move (Operand.tmp 22), type := 34, pos := "law.go:32", after := #[{ on := 4, ground := Ground.data }], guard := none }) (v := ?_) rfl (by kernel_rfl) (by kernel_rfl) (by kernel_rfl) (fun _ _ _ h => h) (Or.inl ⟨by rfl, ?_⟩) hHeld ?_
        rotate_left
        · intro W hSw
          clear hSw
          first | (go_simp; done) | (go_simp; with_reducible rfl)
        (try simp only [Act.put, List.setIfInBounds_toArray, List.set_cons_zero, List.set_cons_succ])
        refine wpAnyH_take (i := 6) (oi := { dst := some 23, op := Op.extract (Operand.tmp 17) 0, type := 25, pos := "law.go:32", after := #[{ on := 5, ground := Ground.data }], guard := none }) (v := ?_) rfl (by kernel_rfl) (by kernel_rfl) (by kernel_rfl) (fun _ _ _ h => h) (Or.inl ⟨by rfl, ?_⟩) hHeld ?_
        rotate_left
        · intro W hSw
          clear hSw
          first | (go_simp; done) | (go_simp; with_reducible rfl)
        (try simp only [Act.put, List.setIfInBounds_toArray, List.set_cons_zero, List.set_cons_succ])
        refine wpAnyH_take (i := 7) (oi := { dst := some 24, op := Op.extract (Operand.tmp 17) 1, type := 3, pos := "law.go:32", after := #[{ on := 5, ground := Ground.data }, { on := 9, ground := Ground.gcOnly Departure.lateStores }], guard := none }) (v := ?_) rfl (by kernel_rfl) (by kernel_rfl) (by kernel_rfl) (fun _ _ _ h => h) (Or.inl ⟨by rfl, ?_⟩) hHeld ?_
        rotate_left
        · intro W hSw
          clear hSw
          first | (go_simp; done) | (go_simp; with_reducible rfl)
        (try simp only [Act.put, List.setIfInBounds_toArray, List.set_cons_zero, List.set_cons_succ])
        refine wpAnyH_ready (rs := [9]) (by kernel_rfl) (by simp) ?_
        refine AllReadyH.cons (o := { dst := none, op := Op.store 25 (Operand.tmp 5) (Operand.tmp 23), type := 0, pos := "law.go:32", after := #[{ on := 8, ground := Ground.data }, { on := 6, ground := Ground.data }, { on := 4, ground := Ground.chain }, { on := 0, ground := Ground.phase }, { on := 1, ground := Ground.phase }, { on := 2, ground := Ground.phase }, { on := 3, ground := Ground.phase }, { on := 4, ground := Ground.phase }, { on := 5, ground := Ground.phase }, { on := 6, ground := Ground.phase }, { on := 7, ground := Ground.textOnly Departure.lateStores }, { on := 8, ground := Ground.phase }], guard := none }) rfl (fun K hK => ?_) AllReadyH.nil
        rw [if_pos (by rfl)]
        refine wp_store_row 25 (.tmp 5) (.tmp 23) rfl Yb xc rfl rfl 25 _ RY_u109.out (by rw [HZ_xc.out]; exact i12) (by rw [HZ_xc.out]; rfl) H1_xc.out ?_
        clear hHeld
        have RA_f : Hid (Rw (u109.setRow Yb xc) w.heap.size cs 25) := Lib.hid ((setRow_block _ _ _ _ (Nat.ne_of_lt HYB.out.2)).trans RA_u109.out)
        have RY_f : Hid (Rw (u109.setRow Yb xc) Yb xc 25) := Lib.hid (RY_u109.out.set xc)
        have BT_f : Hid (Below w.heap.size w (u109.setRow Yb xc)) := Lib.hid (below_setRow BT_u109.out HYB.out.1 xc)
        refine hK.out _ _ ?_ (fun hHeld => ?_)
        · exact ⟨RA_f.out, trivial⟩
        clear hK K
        (try simp only [Act.put])
        refine wpAnyH_take (i := 10) (oi := { dst := some 6, op := Op.assign (Operand.tmp 24), type := 3, pos := "law.go:32", after := #[{ on := 7, ground := Ground.data }, { on := 9, ground := Ground.chain }, { on := 0, ground := Ground.phase }, { on := 1, ground := Ground.phase }, { on := 2, ground := Ground.phase }, { on := 3, ground := Ground.phase }, { on := 4, ground := Ground.phase }, { on := 5, ground := Ground.phase }, { on := 6, ground := Ground.phase }, { on := 7, ground := Ground.phase }, { on := 8, ground := Ground.phase }, { on := 9, ground := Ground.phase }], guard := none }) (v := ?_) rfl (by kernel_rfl) (by kernel_rfl) (by kernel_rfl) (fun _ _ _ h => h) (Or.inl ⟨by rfl, ?_⟩) hHeld ?_
        rotate_left
        · intro W hSw
          clear hSw
          first | (go_simp; done) | (go_simp; with_reducible rfl)
        (try simp only [Act.put, List.setIfInBounds_toArray, List.set_cons_zero, List.set_cons_succ])
        refine wpAnyH_done (by kernel_rfl) ?_ _
        go_wp2
        go_meet
        case rel => exact ⟨Yb, rfl, rfl, RA_f.out, RY_f.out, BT_f.out⟩
    · go_simp
      refine hK.out _ _ ?_ (fun hHeld => ?_)
      · exact ⟨Rw.alloc RA_u1.out _, trivial⟩
      clear hK K hHeld
      (try simp only [Act.put, List.setIfInBounds_toArray, List.set_cons_zero, List.set_cons_succ])
      obtain ⟨Yb, hYb⟩ : ∃ X, X = u1.heap.size := ⟨_, rfl⟩
      rw [← hYb]
      have HYB : Hid (w.heap.size ≤ Yb ∧ w.heap.size < Yb) := Lib.hid (by rw [hYb]; exact ⟨BT_u1.out.size, RA_u1.out.lt⟩)
      refine name_h (fun W => Rw W w.heap.size cs 25 ∧ Rw W Yb zeroSC 25 ∧ Below w.heap.size w W) ⟨Rw.alloc RA_u1.out _, by rw [hYb]; exact Rw.new _ _ _, Below.alloc (below_drew BT_u1.out) BT_u1.out.size _⟩ ?_
      clear hYb 
      clear RA_u1 BT_u1
      rintro u110 ⟨h0, h1, h2⟩
      have RA_u110 := Lib.hid h0
      have RY_u110 := Lib.hid h1
      have BT_u110 := Lib.hid h2
      have hHeld : Rw u110 w.heap.size cs 25 ∧ True := ⟨RA_u110.out, trivial⟩
      clear h0 h1 h2
      refine wpAnyH_ready (rs := [1]) (by kernel_rfl) (by simp) ?_
      refine AllReadyH.cons (o := { dst := some 19, op := Op.buildSlice 33 0 #[], type := 33, pos := "law.go:32", after := #[], guard := none }) rfl (fun K hK => ?_) AllReadyH.nil
      go_simp
      refine hK.out _ _ ?_ (fun hHeld => ?_)
      · exact ⟨Rw.alloc RA_u110.out _, trivial⟩
      clear hK K hHeld
      (try simp only [Act.put, List.setIfInBounds_toArray, List.set_cons_zero, List.set_cons_succ])
      obtain ⟨Eb, hEb⟩ : ∃ X, X = u110.heap.size := ⟨_, rfl⟩
      rw [← hEb]
      have HEB : Hid (w.heap.size ≤ Eb ∧ w.heap.size < Eb) := Lib.hid (by rw [hEb]; exact ⟨BT_u110.out.size, RA_u110.out.lt⟩)
      have HYE : Hid (Yb ≠ Eb) := Lib.hid (by rw [hEb]; exact Nat.ne_of_lt RY_u110.out.lt)
      refine name_h (fun W => Rw W w.heap.size cs 25 ∧ Rw W Yb zeroSC 25 ∧ W.ownsRow w.heap.size 27 19 (.slice (some ⟨Eb, 0, none⟩) 0 0) ([] : List Rc).length (flat ([] : List Rc)) ∧ Below w.heap.size w W ∧ Eb < W.heap.size) ⟨Rw.alloc RA_u110.out _, Rw.alloc RY_u110.out _, by rw [hEb]; exact own0 _ (hb := BT_u110.out.size), Below.alloc BT_u110.out BT_u110.out.size _, by rw [hEb]; simp⟩ ?_
      clear hEb
      clear RA_u110 RY_u110 BT_u110
      rintro u111 ⟨h0, h1, h2, h3, h4⟩
      have HEL := Lib.hid h4
      clear h4
      have RA_u111 := Lib.hid h0
      have RY_u111 := Lib.hid h1
      have HO_u111 := Lib.hid h2
      have BT_u111 := Lib.hid h3
      have hHeld : Rw u111 w.heap.size cs 25 ∧ True := ⟨RA_u111.out, trivial⟩
      clear h0 h1 h2 h3
      clear HEL
      refine wpAnyH_ready (rs := [3]) (by kernel_rfl) (by simp) ?_
      refine AllReadyH.cons (o := { dst := some 21, op := Op.call { callee := Callee.builtin Builtin.append, args := #[Operand.tmp 19, Operand.tmp 20], argTypes := #[33, 33] }, type := 33, pos := "law.go:32", after := #[{ on := 1, ground := Ground.data }, { on := 2, ground := Ground.data }], guard := none }) rfl (fun K hK => ?_) AllReadyH.nil
      obtain ⟨v2, u112, ea, hr2, hg2⟩ := append_recs HO_u111.out (HV.out.under BT_u111.out (Nat.le_refl _)) BT_u111.out.size HNN.out
      rw [if_pos (by rfl)]
      refine wp_append_is (.tmp 19) (.tmp 20) 33 rfl rfl rfl ea ?_
      clear ea
      have kp : ∀ k, k < u111.heap.size → k ≠ Eb → u112.heap[k]? = u111.heap[k]? := fun k h1 h2 => hg2.block k h1 (by intro e; injection e with e; exact h2 e)
      have RA_u112 : Hid (Rw u112 w.heap.size cs 25) := Lib.hid ((kp _ RA_u111.out.lt (Nat.ne_of_lt HEB.out.2)).trans RA_u111.out)
      have RY_u112 : Hid (Rw u112 Yb zeroSC 25) := Lib.hid ((kp _ RY_u111.out.lt HYE.out).trans RY_u111.out)
      have HO_u112 := Lib.hid hr2
      have BT_u112 : Hid (Below w.heap.size w u112) := Lib.hid (below_grown' BT_u111.out hg2 HEB.out.1 (Nat.le_refl _))
      clear hHeld kp hr2 hg2
      refine hK.out _ _ ?_ (fun hHeld => ?_)
      · exact ⟨RA_u112.out, trivial⟩
      clear hK K
      (try simp only [Act.put, List.setIfInBounds_toArray, List.set_cons_zero, List.set_cons_succ])
      clear RA_u111 RY_u111 HO_u111 BT_u111
      clear HEB HYE
      refine wpAnyH_ready (rs := [4]) (by kernel_rfl) (by simp) ?_
      refine AllReadyH.cons (o := { dst := some 22, op := Op.call { callee := Callee.value (Operand.func 16), args := #[Operand.tmp 18, Operand.tmp 21], argTypes := #[25, 33] }, type := 34, pos := "law.go:32", after := #[{ on := 0, ground := Ground.data }, { on := 3, ground := Ground.data }, { on := 3, ground := Ground.chain }], guard := none }) rfl (fun K hK => ?_) AllReadyH.nil
      go_simp
      refine (HCL.out _ _ HO_u112.out).mono ?_
      rintro e u113 ⟨rfl, hb⟩
      have RA_u113 := Lib.hid (RA_u112.out.under hb RA_u112.out.lt)
      have RY_u113 := Lib.hid (RY_u112.out.under hb RY_u112.out.lt)
      have BT_u113 := Lib.hid (BT_u112.out.trans (hb.mono BT_u112.out.size))
      clear hb hHeld
      refine hK.out _ _ ?_ (fun hHeld => ?_)
      · exact ⟨RA_u113.out, trivial⟩
      clear hK K
      (try simp only [Act.put, List.setIfInBounds_toArray, List.set_cons_zero, List.set_cons_succ])
      clear RA_u112 RY_u112 HO_u112 BT_u112
      refine wpAnyH_take (i := 5) (oi := { dst := some 17, op := Op.move (Operand.tmp 22), type := 34, pos := "law.go:32", after := #[{ on := 4, ground := Ground.data }], guard := none }) (v := ?_) rfl (by kernel_rfl) (by kernel_rfl) (by kernel_rfl) (fun _ _ _ h => h) (Or.inl ⟨by rfl, ?_⟩) hHeld ?_
      rotate_left
      · intro W hSw
        clear hSw
        first | (go_simp; done) | (go_simp; with_reducible rfl)
      (try simp only [Act.put, List.setIfInBounds_toArray, List.set_cons_zero, List.set_cons_succ])
      refine wpAnyH_take (i := 6) (oi := { dst := some 23, op := Op.extract (Operand.tmp 17) 0, type := 25, pos := "law.go:32", after := #[{ on := 5, ground := Ground.data }], guard := none }) (v := ?_) rfl (by kernel_rfl) (by kernel_rfl) (by kernel_rfl) (fun _ _ _ h => h) (Or.inl ⟨by rfl, ?_⟩) hHeld ?_
      rotate_left
      · intro W hSw
        clear hSw
        first | (go_simp; done) | (go_simp; with_reducible rfl)
      (try simp only [Act.put, List.setIfInBounds_toArray, List.set_cons_zero, List.set_cons_succ])
      refine wpAnyH_take (i := 7) (oi := { dst := some 24, op := Op.extract (Operand.tmp 17) 1, type := 3, pos := "law.go:32", after := #[{ on := 5, ground := Ground.data }, { on := 9, ground := Ground.gcOnly Departure.lateStores }], guard := none }) (v := ?_) rfl (by kernel_rfl) (by kernel_rfl) (by kernel_rfl) (fun _ _ _ h => h) (Or.inl ⟨by rfl, ?_⟩) hHeld ?_
      rotate_left
      · intro W hSw
        clear hSw
        first | (go_simp; done) | (go_simp; with_reducible rfl)
      (try simp only [Act.put, List.setIfInBounds_toArray, List.set_cons_zero, List.set_cons_succ])
      refine wpAnyH_ready (rs := [9]) (by kernel_rfl) (by simp) ?_
      refine AllReadyH.cons (o := { dst := none, op := Op.store 25 (Operand.tmp 5) (Operand.tmp 23), type := 0, pos := "law.go:32", after := #[{ on := 8, ground := Ground.data }, { on := 6, ground := Ground.data }, { on := 4, ground := Ground.chain }, { on := 0, ground := Ground.phase }, { on := 1, ground := Ground.phase }, { on := 2, ground := Ground.phase }, { on := 3, ground := Ground.phase }, { on := 4, ground := Ground.phase }, { on := 5, ground := Ground.phase }, { on := 6, ground := Ground.phase }, { on := 7, ground := Ground.textOnly Departure.lateStores }, { on := 8, ground := Ground.phase }], guard := none }) rfl (fun K hK => ?_) AllReadyH.nil
      rw [if_pos (by rfl)]
      refine wp_store_row 25 (.tmp 5) (.tmp 23) rfl Yb xc rfl rfl 25 _ RY_u113.out (by rw [HZ_xc.out]; exact i12) (by rw [HZ_xc.out]; rfl) H1_xc.out ?_
      clear hHeld
      have RA_f : Hid (Rw (u113.setRow Yb xc) w.heap.size cs 25) := Lib.hid ((setRow_block _ _ _ _ (Nat.ne_of_lt HYB.out.2)).trans RA_u113.out)
      have RY_f : Hid (Rw (u113.setRow Yb xc) Yb xc 25) := Lib.hid (RY_u113.out.set xc)
      have BT_f : Hid (Below w.heap.size w (u113.setRow Yb xc)) := Lib.hid (below_setRow BT_u113.out HYB.out.1 xc)
      refine hK.out _ _ ?_ (fun hHeld => ?_)
      · exact ⟨RA_f.out, trivial⟩
      clear hK K
      (try simp only [Act.put])
      refine wpAnyH_take (i := 10) (oi := { dst := some 6, op := Op.assign (Operand.tmp 24), type := 3, pos := "law.go:32", after := #[{ on := 7, ground := Ground.data }, { on := 9, ground := Ground.chain }, { on := 0, ground := Ground.phase }, { on := 1, ground := Ground.phase }, { on := 2, ground := Ground.phase }, { on := 3, ground := Ground.phase }, { on := 4, ground := Ground.phase }, { on := 5, ground := Ground.phase }, { on := 6, ground := Ground.phase }, { on := 7, ground := Ground.phase }, { on := 8, ground := Ground.phase }, { on := 9, ground := Ground.phase }], guard := none }) (v := ?_) rfl (by kernel_rfl) (by kernel_rfl) (by kernel_rfl) (fun _ _ _ h => h) (Or.inl ⟨by rfl, ?_⟩) hHeld ?_
      rotate_left
      · intro W hSw
        clear hSw
        first | (go_simp; done) | (go_simp; with_reducible rfl)
      (try simp only [Act.put, List.setIfInBounds_toArray, List.set_cons_zero, List.set_cons_succ])
      refine wpAnyH_done (by kernel_rfl) ?_ _
      go_wp2
      go_meet
      case rel => exact ⟨Yb, rfl, rfl, RA_f.out, RY_f.out, BT_f.out⟩
  case rest =>
    obtain ⟨Y, rfl, rfl, h0, h1, h2⟩ := hcut
    clear R_A_1 BT1
    have R_A_2 := Lib.hid h0
    have R_Y_2 := Lib.hid h1
    have BT2 := Lib.hid h2
    clear h0 h1 h2
    have HM1 := Lib.hid (HML.out wc (HV.out.under BT2.out (Nat.le_refl _)))
    go_wp2_with (first | (refine wpList_load_row rfl 25 (.tmp 2) rfl w.heap.size rfl 25 cs (0, 0) _ R_A_2.out Try.underlying25 rfl (by rw [HZ_cs.out]; exact i12) ?_))
    refine HM1.out.mono ?_
    rintro e u3 ⟨rfl, hb⟩
    have R_A_3 := Lib.hid (R_A_2.out.under hb R_A_2.out.lt)
    have R_Y_3 := Lib.hid (R_Y_2.out.under hb R_Y_2.out.lt)
    have BT3 := Lib.hid (BT2.out.trans (hb.mono BT2.out.size))
    clear hb BT2 HM1 HML R_A_2 R_Y_2
    go_upto_region 5 with (first | (refine wpList_plain rfl fun _ hK => wp_store_row 25 (.tmp 7) (.tmp 29) rfl u3.heap.size xc rfl rfl 25 _ (Rw.new u3 _ 25) (by rw [HZ_xc.out]; exact i12) (by rw [HZ_xc.out]; rfl) H1_xc.out (hK _ _ ?_); clear hK))
    obtain ⟨V, hY⟩ : ∃ X, X = u3.heap.size := ⟨_, rfl⟩
    rw [← hY]
    refine name_w (fun W => Rw W w.heap.size cs 25 ∧ Rw W Y xc 25 ∧ Rw W V xc 25 ∧ Below w.heap.size w W) ?_ ?_
    · have bb := below_setRow ((Below.refl u3.heap.size u3).alloc (Nat.le_refl _) (.cells zeroSC 25)) (Nat.le_refl _) (b := u3.heap.size) xc
      rw [hY]
      exact ⟨R_A_3.out.under bb R_A_3.out.lt, R_Y_3.out.under bb R_Y_3.out.lt, (Rw.new u3 _ 25).set xc, BT3.out.trans (bb.mono BT3.out.size)⟩
    clear hY BT3 R_A_3 R_Y_3
    rintro u4 ⟨h0, h1, h2, h3⟩
    have R_A_4 := Lib.hid h0
    have R_Y_4 := Lib.hid h1
    have R_V_4 := Lib.hid h2
    have BT4 := Lib.hid h3
    clear h0 h1 h2 h3
    go_wp2_with (first | (refine wpList_load_any (by rfl) 25 (.tmp 5) rfl Y rfl 25 xc (0, 0) _ R_Y_4.out Try.underlying25 rfl (by rw [HZ_xc.out]; exact i12) ?_) | (refine wpList_load_any (by rfl) 25 (.tmp 7) rfl V rfl 25 xc (0, 0) _ R_V_4.out Try.underlying25 rfl (by rw [HZ_xc.out]; exact i12) ?_))
    go_ret
    exact ⟨rfl, BT4.out⟩

/-! From the walk to the given row. -/
set_option maxRecDepth 100000 in
theorem lifted (os : Os) (started : os.Started) (H : Type) (enc : TypeId × Value → H) :
    ReturnsInHanded {} Try.checked os 4 .any (Rows.foldAllSpec.pre6 enc Try.prog Try.f4 Rows.foldAllRow.domain false) (Rows.foldAllSpec.post enc Try.prog Try.f4 false true false false) := by
  refine returnsInHanded_of_change (C := Try.checked) t_own started (by kernel_rfl) Try.func4
    (ChangeSpec.witness6 (enc := enc) (C := Try.checked) false ⟨#[], #[stV zeroS, .slice none 0 0], []⟩ 8 (by kernel_rfl) (by kernel_rfl) (by kernel_rfl) (by kernel_rfl)) ?_
  intro W base args ds gs before hval0 hW hcnd _
  have hval : ∀ (j : Nat) t v, Try.f4.params[j]? = some t → args[j]? = some v → Value.okWide Try.prog W .any base t v := hval0
  have hW' := hW
  obtain ⟨p, q, hA0, hV, rfl, hfz, hnd⟩ := hW
  have hA : DataW.TrodAll enc Try.prog W 0 (fun _ => true) true Try.f4.params.toList args.toList ds p := hA0
  rw [Try.params4] at hA hval
  obtain ⟨v0, vs0, d0, ds0, p0, q0, hargs, rfl, rfl, h0, r0⟩ := trodAll_cons hA
  obtain ⟨v1, vs1, d1, ds1, p1, q1, rfl, rfl, rfl, h1, r1⟩ := trodAll_cons r0
  obtain ⟨rfl, rfl, rfl⟩ := trodAll_nil r1
  obtain rfl : args = #[v0, v1] := by cases args; simp_all
  obtain ⟨s, rfl, hs⟩ := open_state (hval 0 25 v0 rfl rfl) h0
  obtain ⟨rs, hrs, hf⟩ := open_recsI (hval 1 33 v1 rfl rfl) h1
  refine (walk s v1 rs W hs hrs hf).mono fun e W' ⟨he, hb⟩ => ?_
  subst he
  exact ⟨_, rfl, post_of_holds hW' (by kernel_rfl) rfl (by rw [Try.params4]; exact fun t ht => params_ok t (by simp at ht; rcases ht with rfl | rfl <;> simp)) ⟨rfl, rfl, rfl⟩ hb⟩

/-- The given statement. -/
theorem proved : Rows.FoldAllSaid :=
  OpenClaim.holds_of_wide 4 Try.f4 rfl rfl rfl rfl rfl rfl rfl ⟨rfl, rfl, rfl, rfl, rfl⟩ rfl rfl rfl rfl rfl (by kernel_rfl) Try.func4 (by kernel_rfl)
    (of_decide_eq_true (by kernel_rfl)) (by unfold Func.isWrapper; first | (rw [if_pos (by decide +kernel)]; kernel_rfl) | (rw [if_neg (by decide +kernel)]; exact ⟨rfl, rfl⟩))
    (fun os started H enc _ => lifted os started H enc)
#print axioms proved
end Go.Proofs.Ytoeelglmdnhknaa.foldAll
