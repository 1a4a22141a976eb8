/-
  What a step comes to: plain facts, no program.
  The document's model's Step.
  The document's model's New; its calls as a bundle.
  Both models behind a world: the package's and the document's (Duo); the document's behind a Slot (DcS).
-/
import Derived.Test.YtchaeidmjoelnaaGreatMdA
import Derived.Test.YtchaeidmjoelnaaGreatStOk
import Derived.Test.YtchaeidmjoelnaaGreatDcA
import Derived.Test.YtchaeidmjoelnaaGreatPlnN
import Derived.Deep.LoopGhost
import Derived.WalkMore
import Derived.Deep.CutRange
import Derived.Test.YtchaeidmjoelnaaGreatMdC
namespace Go.Proofs.YtchaeidmjoelnaaGreat

theorem next_range (s : St) (v : Vw) (now : Int) : (nextS s v now).1 = 0 ∨ (nextS s v now).1 = 1 ∨ (nextS s v now).1 = 2 ∨ (nextS s v now).1 = 3 ∨ (nextS s v now).1 = 4 ∨ (nextS s v now).1 = 5 ∨ (nextS s v now).1 = 6 := by
  unfold nextS nextX
  (repeat' split) <;> simp
theorem next_kind (s : St) (v : Vw) (now : Int) : Fits (nextS s v now).2.kind := by
  unfold nextS nextX Fits
  (repeat' split) <;> simp [rcK]
theorem next_prep {s : St} {v : Vw} {now : Int} (hr : rightS s = true) (h : (nextS s v now).1 = 2) : (s.ph = 3 ∨ s.ph = 6) ∧ s.sw = 0 ∧ (nextS s v now).2 = rcK 5 (s.gn + 1) := by
  have hs := right_in hr
  unfold nextS nextX at h ⊢
  split at h
  · cases h
  · rename_i h1
    rw [if_neg h1]
    split at h
    · rename_i h2
      rw [if_pos h2]
      split at h
      · cases h
      · rename_i h3
        rw [if_neg h3]
        split at h
        · split at h <;> cases h
        · rename_i h4
          rw [if_neg h4]
          split at h
          · rename_i h5
            rw [if_pos h5]
            exact ⟨h2, by omega, rfl⟩
          · cases h
    · split at h <;> cases h
theorem next_com {s : St} {v : Vw} {now : Int} (h : (nextS s v now).1 = 3) : (s.ph = 3 ∨ s.ph = 6) ∧ s.sw = 1 ∧ (nextS s v now).2 = rcK 6 s.gn := by
  unfold nextS nextX at h ⊢
  split at h
  · cases h
  · rename_i h1
    rw [if_neg h1]
    split at h
    · rename_i h2
      rw [if_pos h2]
      split at h
      · cases h
      · rename_i h3
        rw [if_neg h3]
        split at h
        · rename_i h4
          rw [if_pos h4]
          split at h
          · rename_i h5
            rw [if_pos h5]
            exact ⟨h2, h4, rfl⟩
          · cases h
        · split at h <;> cases h
    · split at h <;> cases h
theorem next_route {s : St} {v : Vw} {now : Int} (h : (nextS s v now).1 = 5) : s.sw = 2 := by
  unfold nextS nextX at h
  split at h
  · cases h
  · split at h
    · split at h
      · rename_i h3
        exact h3
      · split at h
        · split at h <;> cases h
        · split at h <;> cases h
    · split at h <;> cases h
/-- Where a step has come to: what it goes on from. -/
structure Far (ms : Md) (n : Nat) (m : Md) : Prop where
  eq : goM 4 ms = goM n m
  far : 3 ≤ (n : Int) + m.s.sw
  set : SetI m
  ro : m.ro = ms.ro
  fu : m.fu = ms.fu
  tick : m.tick = ms.tick
theorem far_act {ms m : Md} {n : Nat} (h : Far ms n m) {a : Int} {r : Rc} (h1 : (nextS m.s (viewM m) m.tick).1 = a) (h2 : (nextS m.s (viewM m) m.tick).2 = r) : goM 4 ms = if a = 0 then (m, 0) else if a = 5 then routeM m else if a ≠ 2 ∧ a ≠ 3 then ((putM m r).1, 0) else if (putM m r).2 = false then ((putM m r).1, 9) else goM (n - 1) (putM m r).1 := by
  have hi := right_in h.set.right
  have hf := h.far
  obtain ⟨k, rfl⟩ : ∃ k, n = k + 1 := ⟨n - 1, by omega⟩
  rw [h.eq]
  exact go_act (by rw [← h1, ← h2])
theorem far_go {ms m : Md} {n : Nat} (h : Far ms n m) {a : Int} {r : Rc} (h1 : (nextS m.s (viewM m) m.tick).1 = a) (h2 : (nextS m.s (viewM m) m.tick).2 = r) (ha : a = 2 ∨ a = 3) (hk : (putM m r).2 = true) : Far ms (n - 1) (putM m r).1 ∧ (putM m r).1.s.sw = m.s.sw + 1 ∧ m.s.sw ≤ 1 ∧ 0 ≤ m.s.sw := by
  have he := far_act h h1 h2
  have hi := right_in h.set.right
  have hf := h.far
  rw [if_neg (by omega), if_neg (by omega), if_neg (by omega), if_neg (by rw [hk]; decide)] at he
  have hs : (putM m r).1.s.sw = m.s.sw + 1 ∧ m.s.sw ≤ 1 ∧ 0 ≤ m.s.sw := by
    show (stepS m.s r).1.sw = _ ∧ _
    rcases ha with ha | ha
    · obtain ⟨g1, g2, g3⟩ := next_prep h.set.right (h1.trans ha)
      rw [h2] at g3
      subst g3
      by_cases hg : m.s.gn < 1048576
      · rw [stp_prep h.set.right g1 g2 hg]
        exact ⟨by show (1 : Int) = _; omega, by omega, by omega⟩
      · have hk2 : (stepS m.s (rcK 5 (m.s.gn + 1))).2 = true := hk
        rw [stp_prep_no h.set.right (by omega)] at hk2
        cases hk2
    · obtain ⟨g1, g2, g3⟩ := next_com (h1.trans ha)
      rw [h2] at g3
      subst g3
      rw [stp_commit h.set.right g2]
      exact ⟨by show (2 : Int) = _; omega, by omega, by omega⟩
  exact ⟨⟨he, by rw [hs.1]; omega, put_set m r h.set.right, h.ro, h.fu, h.tick⟩, hs⟩
theorem next_okr {m : Md} (h : SetI m) (h0 : (nextS m.s (viewM m) m.tick).1 ≠ 0) (h5 : (nextS m.s (viewM m) m.tick).1 ≠ 5) : OkR m.s (nextS m.s (viewM m) m.tick).2 := by
  have hr := h.right
  unfold nextS nextX at h0 h5 ⊢
  split
  · rename_i g1
    exact .inl (by rw [stp_warm hr g1.1])
  · rename_i g1
    rw [if_neg g1] at h0 h5
    split
    · rename_i g2
      rw [if_pos g2] at h0 h5
      split
      · rename_i g3
        rw [if_pos g3] at h5
        exact absurd rfl h5
      · rename_i g3
        rw [if_neg g3] at h0 h5
        split
        · rename_i g4
          rw [if_pos g4] at h0 h5
          split
          · exact .inl (by rw [stp_commit hr g4])
          · exact .inl (by rw [stp_cancel hr g4])
        · rename_i g4
          rw [if_neg g4] at h0 h5
          split
          · have hs := right_in hr
            exact .inr ⟨rfl, g2, by omega, rfl⟩
          · rename_i g6
            rw [if_neg g6] at h0
            exact absurd rfl h0
    · rename_i g2
      rw [if_neg g2] at h0
      split
      · rename_i g3
        exact .inl (by rw [stp_scale hr (by omega)])
      · rename_i g3
        rw [if_neg g3] at h0
        exact absurd rfl h0
theorem okr_rec8 {s : St} (hr : rightS s = true) (hs : s.sw = 2) {t : Int} (ht : 0 ≤ t ∧ t ≤ 1073741824) : OkR s (rec8 s.gn t) := .inl (by rw [stp_apply hr hs ht])
end Go.Proofs.YtchaeidmjoelnaaGreat
namespace Go.Proofs.YtchaeidmjoelnaaGreat
open Go.RowKit

theorem dset_at {O : Nat → Prop} {W : World} {rb n : Nat} {m : Md} (h : RoD O W rb (m.ro, m.fu)) (hd : Bd n m.ro m.fu) (hn : n ≤ 1000) :
    Calls Tryz.prog 36 #[.pointer (some ⟨rb, 0, none⟩), .agg #[.int .i64 (1 - m.s.ac), .int .i64 m.s.gn], .int .i64 m.tries] W fun e w' => e = .returned (.tuple #[.int .i64 (toldM m), .int .i64 (setJ m.s.gn (1 - m.s.ac) m.ro m.fu m.tries : Int)]) ∧ TurnO RoD O W w' rb (st m.s.gn (1 - m.s.ac) m.ro m.fu (setJ m.s.gn (1 - m.s.ac) m.ro m.fu m.tries)) :=
  (rod_set n m.s.gn (1 - m.s.ac) m.tries h hd (by omega) (by have := hd.outs; omega)).mono fun e w' ⟨j, hj, he, ht⟩ => by
    obtain rfl := hj.uniq (setJ_is m.s.gn (1 - m.s.ac) m.ro m.fu m.tries)
    exact ⟨he, ht⟩
set_option maxRecDepth 100000 in
set_option maxHeartbeats 8000000 in
theorem dstep_m {O : Nat → Prop} {w : World} {b fb rb : Nat} {m : Md} (n : Nat) (v : Value) (xs : List Int) (h : DcX fb rb O w b m) (hI : MdI m) (hd : Bd n m.ro m.fu) (hn : n + 10 ≤ 1000) (hv : IntsI w v xs) (hx : xs.length ≤ 100) : Calls Tryz.prog 11 #[ptr b, v] w fun e w' => e = .returned (.int .i64 (stepM m xs).2) ∧ TurnO (DcX fb rb) O w w' b (stepM m xs).1 := by
  obtain ⟨O0, hO0⟩ : ∃ X, X = O := ⟨_, rfl⟩
  rw [← hO0]
  have HH : Hid (Hold (DcX fb rb) O0 w w [] b m) := Lib.hid (Hold.start (by rw [hO0]; exact h))
  obtain ⟨ms, hms⟩ : ∃ x, x = scriptM m xs := ⟨_, rfl⟩
  have HSM : Hid (stepM m xs = goM 4 ms) := Lib.hid (by rw [hms]; rfl)
  have HMS : Hid (MdI ms) := Lib.hid (by rw [hms, script_is hI.set xs]; exact script_inv hI xs)
  have HBD : Hid (Bd (n + 1) ms.ro ms.fu) := Lib.hid (by rw [hms]; exact hd.script xs hx)
  have HN := Lib.hid hn
  have HSC : Hid (∀ W L, Hold (DcX fb rb) O0 w W L b m → IntsI W v xs → Calls Tryz.prog 33 #[ptr rb, v] W fun e w' => e = .returned (.tuple #[]) ∧ Hold (DcX fb rb) O0 w w' L b { m with ro := { m.ro with outs := m.ro.outs ++ xs }, fu := m.fu }) := Lib.hid (fun W L h hv => h.drouter (fun _ h => rod_script v xs h hv (by have := hd.outs; omega)))
  have HV := Lib.hid hv
  have c13 : w.cell? ⟨b, 13, none⟩ = some (ptr rb) := by rw [HH.out.drow.cell]; rfl
  obtain ⟨m1, hm1⟩ : ∃ x : Md, x = { m with ro := { m.ro with outs := m.ro.outs ++ xs }, fu := m.fu } := ⟨_, rfl⟩
  rw [← hm1] at HSC
  have HM1 : Hid ({ m1 with k := scaleL m1.k m1.s.w0, l := scaleL m1.l m1.s.w1 } = ms) := Lib.hid (by rw [hm1, hms]; rfl)
  clear h hO0 hms hI hd hn hv hx hm1
  go_enter Tryz.func11, Tryz.ntmps11
  go_wp2_with fail
  refine (HSC.out _ _ HH.out HV.out).mono ?_
  rintro e u1 ⟨rfl, h⟩
  have HU1 := Lib.hid h
  clear h HH HSC HV c13
  go_upto_region 2 with (fail)
  have HD0 := Lib.hid (HU1.out.drew (dcx_keeps fb rb))
  clear HU1
  refine wp_region_held_drew (S := fun Wx => Wx.cell? ⟨b, 12, none⟩ = some (ptr fb) ∧ Wx.rangeAt b 4 (#[.int .i64 m1.s.w0, .int .i64 m1.s.w1] : Array Value).toList) (by kernel_rfl) ⟨by rw [HD0.out.drow.cell]; rfl, HD0.out.drow.range _ (fun j v hv => by match j, hv with | 0, hv | 1, hv => exact hv | j + 2, hv => simp at hv)⟩ (fun hHeld => ?_)
  refine wpAnyH_take (i := 0) (oi := { dst := some 18, op := Op.move (Operand.tmp 0), type := 36, pos := "ref.go:54", after := #[], guard := none }) (v := ?_) rfl (by kernel_rfl) (by kernel_rfl) (by kernel_rfl) (fun _ _ _ h => h) (Or.inl ⟨by rfl, ?_⟩) hHeld ?_
  rotate_left
  · rintro Wx ⟨hS0, hS1⟩
    clear hS1
    first | (go_simp; done) | (go_simp; with_reducible rfl)
  (try simp only [Act.put, List.setIfInBounds_toArray, List.set_cons_zero, List.set_cons_succ])
  refine wpAnyH_take (i := 1) (oi := { dst := some 19, op := Op.nilCheck (Operand.tmp 18), type := 0, pos := "ref.go:54", after := #[{ on := 0, ground := Ground.data }], guard := none }) (v := ?_) rfl (by kernel_rfl) (by kernel_rfl) (by kernel_rfl) (fun _ _ _ h => h) (Or.inl ⟨by rfl, ?_⟩) hHeld ?_
  rotate_left
  · rintro Wx ⟨hS0, hS1⟩
    clear hS1
    first | (go_simp; done) | (go_simp; with_reducible rfl)
  (try simp only [Act.put, List.setIfInBounds_toArray, List.set_cons_zero, List.set_cons_succ])
  refine wpAnyH_take (i := 2) (oi := { dst := some 20, op := Op.fieldAddr 49 (Operand.tmp 19) 1, type := 0, pos := "ref.go:54", after := #[{ on := 1, ground := Ground.data }], guard := none }) (v := ?_) rfl (by kernel_rfl) (by kernel_rfl) (by kernel_rfl) (fun _ _ _ h => h) (Or.inl ⟨by rfl, ?_⟩) hHeld ?_
  rotate_left
  · rintro Wx ⟨hS0, hS1⟩
    clear hS1
    first | (go_simp; done) | (go_simp; with_reducible rfl)
  (try simp only [Act.put, List.setIfInBounds_toArray, List.set_cons_zero, List.set_cons_succ])
  refine wpAnyH_take (i := 3) (oi := { dst := some 21, op := Op.load 46 (Operand.tmp 20), type := 46, pos := "ref.go:54", after := #[{ on := 2, ground := Ground.data }], guard := none }) (v := ?_) rfl (by kernel_rfl) (by kernel_rfl) (by kernel_rfl) (fun _ _ _ h => h) (Or.inl ⟨by rfl, ?_⟩) hHeld ?_
  rotate_left
  · rintro Wx ⟨hS0, hS1⟩
    clear hS1
    first | (go_simp; done) | (go_simp; with_reducible rfl)
  (try simp only [Act.put, List.setIfInBounds_toArray, List.set_cons_zero, List.set_cons_succ])
  refine wpAnyH_take (i := 4) (oi := { dst := some 22, op := Op.move (Operand.tmp 0), type := 36, pos := "ref.go:54", after := #[], guard := none }) (v := ?_) rfl (by kernel_rfl) (by kernel_rfl) (by kernel_rfl) (fun _ _ _ h => h) (Or.inl ⟨by rfl, ?_⟩) hHeld ?_
  rotate_left
  · rintro Wx ⟨hS0, hS1⟩
    clear hS1
    first | (go_simp; done) | (go_simp; with_reducible rfl)
  (try simp only [Act.put, List.setIfInBounds_toArray, List.set_cons_zero, List.set_cons_succ])
  refine wpAnyH_take (i := 5) (oi := { dst := some 23, op := Op.nilCheck (Operand.tmp 22), type := 0, pos := "ref.go:54", after := #[{ on := 4, ground := Ground.data }], guard := none }) (v := ?_) rfl (by kernel_rfl) (by kernel_rfl) (by kernel_rfl) (fun _ _ _ h => h) (Or.inl ⟨by rfl, ?_⟩) hHeld ?_
  rotate_left
  · rintro Wx ⟨hS0, hS1⟩
    clear hS1
    first | (go_simp; done) | (go_simp; with_reducible rfl)
  (try simp only [Act.put, List.setIfInBounds_toArray, List.set_cons_zero, List.set_cons_succ])
  refine wpAnyH_take (i := 6) (oi := { dst := some 24, op := Op.fieldAddr 49 (Operand.tmp 23) 0, type := 0, pos := "ref.go:54", after := #[{ on := 5, ground := Ground.data }], guard := none }) (v := ?_) rfl (by kernel_rfl) (by kernel_rfl) (by kernel_rfl) (fun _ _ _ h => h) (Or.inl ⟨by rfl, ?_⟩) hHeld ?_
  rotate_left
  · rintro Wx ⟨hS0, hS1⟩
    clear hS1
    first | (go_simp; done) | (go_simp; with_reducible rfl)
  (try simp only [Act.put, List.setIfInBounds_toArray, List.set_cons_zero, List.set_cons_succ])
  refine wpAnyH_take (i := 7) (oi := { dst := some 25, op := Op.fieldAddr 33 (Operand.tmp 24) 3, type := 0, pos := "ref.go:54", after := #[{ on := 6, ground := Ground.data }], guard := none }) (v := ?_) rfl (by kernel_rfl) (by kernel_rfl) (by kernel_rfl) (fun _ _ _ h => h) (Or.inl ⟨by rfl, ?_⟩) hHeld ?_
  rotate_left
  · rintro Wx ⟨hS0, hS1⟩
    clear hS1
    first | (go_simp; done) | (go_simp; with_reducible rfl)
  (try simp only [Act.put, List.setIfInBounds_toArray, List.set_cons_zero, List.set_cons_succ])
  refine wpAnyH_take (i := 8) (oi := { dst := some 26, op := Op.load 30 (Operand.tmp 25), type := 30, pos := "ref.go:54", after := #[{ on := 7, ground := Ground.data }], guard := none }) (v := .agg (#[.int .i64 m1.s.w0, .int .i64 m1.s.w1] : Array Value)) rfl (by kernel_rfl) (by kernel_rfl) (by kernel_rfl) (fun _ _ _ h => h) (Or.inl ⟨by rfl, fun Wx hS => exec_load_midD 30 (.tmp 25) rfl b 4 rfl (#[.int .i64 m1.s.w0, .int .i64 m1.s.w1] : Array Value) _ hS.2 Tryz.underlying30 rfl i2wD⟩) hHeld ?_
  (try simp only [Act.put, List.setIfInBounds_toArray, List.set_cons_zero, List.set_cons_succ])
  refine wpAnyH_ready (rs := [9]) (by kernel_rfl) (by simp) ?_
  refine AllReadyH.cons (o := { dst := some 27, op := Op.call { callee := Callee.value (Operand.func 28), args := #[Operand.tmp 21, Operand.tmp 26], argTypes := #[46, 30] }, type := 0, pos := "ref.go:54", after := #[{ on := 3, ground := Ground.data }, { on := 8, ground := Ground.data }], guard := none }) rfl (fun K hK => ?_) AllReadyH.nil
  go_simp
  refine (HD0.out.dfleet (fun _ ⟨_, _, _, _, h⟩ => mapply_any m1.s.w0 m1.s.w1 h)).mono ?_
  rintro e x1 ⟨rfl, h⟩
  have HX1 := Lib.hid h
  clear h
  refine hK.out _ _ ?_ (fun hHeld => ?_)
  · exact ⟨by rw [HX1.out.drow.cell]; rfl, HX1.out.drow.range _ (fun j v hv => by match j, hv with | 0, hv | 1, hv => exact hv | j + 2, hv => simp at hv)⟩
  clear hK K
  (try simp only [Act.put, List.setIfInBounds_toArray, List.set_cons_zero, List.set_cons_succ])
  refine wpAnyH_done (by kernel_rfl) ?_ _
  have HL0 : Hid (Hold (DcX fb rb) O0 w x1 [] b ms) := Lib.hid (by have h := HX1.out; rw [HM1.out] at h; exact h)
  clear HX1 HM1
  go_wp2
  go_loopg [5] 4 (fun m' tv wr => ∃ (mi : Md) (ni : Nat), Hid (m' + ni = 4) ∧ tv = .int .i64 (ni : Int) ∧ Hid (Far ms (4 - ni) mi) ∧ Hid (Hold (DcX fb rb) O0 w wr [] b mi))
  case atStart => exact ⟨ms, 0, Lib.hid rfl, rfl, Lib.hid ⟨rfl, by have := right_in HMS.out.right; omega, HMS.out.set, rfl, rfl, rfl⟩, HL0⟩
  case round =>
    obtain ⟨mi, ni, HG, rfl, HFR, HO⟩ := hrel
    clear HL0
    have hni : ni < 4 := by have h1 := HFR.out.far; have h2 := right_in HFR.out.set.right; have := HG.out; omega
    have HNI := Lib.hid hni
    have tlt : decide ((ni : Int) < 4) = true := decide_eq_true (by omega)
    have wni : wrap64 ((ni : Int) + 1) = ((ni + 1 : Nat) : Int) := by unfold wrap64; omega
    clear hni
    obtain ⟨a, ha⟩ : ∃ x, x = (nextS mi.s (viewM mi) mi.tick).1 := ⟨_, rfl⟩
    obtain ⟨r, hr⟩ : ∃ x, x = (nextS mi.s (viewM mi) mi.tick).2 := ⟨_, rfl⟩
    have HAA := Lib.hid ha
    have HRR := Lib.hid hr
    have HOK : Hid (a ≠ 0 → a ≠ 5 → OkR mi.s r) := Lib.hid (by rw [ha, hr]; exact next_okr HFR.out.set)
    have har := next_range mi.s (viewM mi) mi.tick
    rw [← ha] at har
    have HAR := Lib.hid har
    obtain ⟨rs, hrs⟩ : ∃ c, c = recC r := ⟨_, rfl⟩
    have HRS := Lib.hid hrs
    have HZ_rs : Hid (rs.size = 19) := Lib.hid (by rw [hrs]; rfl)
    have H1_rs : Hid (rs.all (·.oneCell') = true) := Lib.hid (by rw [hrs]; simp [recC, Value.oneCell'])
    have HNX : Hid (∀ W, Calls Tryz.prog 34 #[.agg (stC mi.s), .agg #[.int .i64 (mi.k.length : Int), .int .i64 (mi.l.length : Int), .int .i64 (cntL mi.k : Int), .int .i64 (cntL mi.l : Int)], .int .i64 mi.tick] W fun e w' => e = .returned (.tuple #[.int .i64 a, .agg rs]) ∧ Below W.heap.size W w') := Lib.hid (fun W => by
      have h1 := mnext_any mi.s (viewM mi) mi.tick W HFR.out.set.right (by rw [HFR.out.tick]; have := HMS.out.tick; unfold Fits; omega)
      rw [← ha, ← hr] at h1
      unfold recV at h1
      rw [← hrs] at h1
      exact h1)
    have HPUT : Hid (OkR mi.s r → ∀ W L, Hold (DcX fb rb) O0 w W L b mi → Calls Tryz.prog 31 #[ptr b, .agg rs] W fun e w' => e = .returned (.bool (putM mi r).2) ∧ Hold (DcX fb rb) O0 w w' L b (putM mi r).1) := Lib.hid (fun hk W L h => by rw [hrs]; exact h.turn (fun _ h => dput_any r h HFR.out.set.right hk))
    have HEQ := Lib.hid (far_act HFR.out ha.symm hr.symm)
    clear ha hr har hrs
    go_upto_region 6 with (fail)
    go_cut [6, 7] from 28 to 103 (fun sa sp W => ∃ Y, sa = .int .i64 a ∧ sp = ptr Y ∧ Hold (DcX fb rb) O0 w W [(Y, rs, 85)] b mi)
    case first =>
      have HD0 := Lib.hid (HO.out.drew (dcx_keeps fb rb))
      clear HO
      refine wp_region_held_drew (S := fun Wx => Wx.rangeAt b 0 (stC mi.s).toList ∧ Wx.cell? ⟨b, 12, none⟩ = some (ptr fb) ∧ Wx.cell? ⟨b, 15, none⟩ = some (.int .i64 mi.tick)) (by kernel_rfl) ⟨HD0.out.dst, (HD0.out.drow.cell 12).trans rfl, (HD0.out.drow.cell 15).trans rfl⟩ (fun hHeld => ?_)
      refine wpAnyH_take (i := 0) (oi := { dst := some 33, op := Op.move (Operand.tmp 0), type := 36, pos := "ref.go:56", after := #[], guard := none }) (v := ?_) rfl (by kernel_rfl) (by kernel_rfl) (by kernel_rfl) (fun _ _ _ h => h) (Or.inl ⟨by rfl, ?_⟩) hHeld ?_
      rotate_left
      · rintro Wx ⟨hS0, hS1, hS2⟩
        clear hS0
        first | (go_simp; done) | (go_simp; with_reducible rfl)
      (try simp only [Act.put, List.setIfInBounds_toArray, List.set_cons_zero, List.set_cons_succ])
      refine wpAnyH_take (i := 1) (oi := { dst := some 34, op := Op.nilCheck (Operand.tmp 33), type := 0, pos := "ref.go:56", after := #[{ on := 0, ground := Ground.data }], guard := none }) (v := ?_) rfl (by kernel_rfl) (by kernel_rfl) (by kernel_rfl) (fun _ _ _ h => h) (Or.inl ⟨by rfl, ?_⟩) hHeld ?_
      rotate_left
      · rintro Wx ⟨hS0, hS1, hS2⟩
        clear hS0
        first | (go_simp; done) | (go_simp; with_reducible rfl)
      (try simp only [Act.put, List.setIfInBounds_toArray, List.set_cons_zero, List.set_cons_succ])
      refine wpAnyH_take (i := 2) (oi := { dst := some 35, op := Op.fieldAddr 49 (Operand.tmp 34) 0, type := 0, pos := "ref.go:56", after := #[{ on := 1, ground := Ground.data }], guard := none }) (v := ?_) rfl (by kernel_rfl) (by kernel_rfl) (by kernel_rfl) (fun _ _ _ h => h) (Or.inl ⟨by rfl, ?_⟩) hHeld ?_
      rotate_left
      · rintro Wx ⟨hS0, hS1, hS2⟩
        clear hS0
        first | (go_simp; done) | (go_simp; with_reducible rfl)
      (try simp only [Act.put, List.setIfInBounds_toArray, List.set_cons_zero, List.set_cons_succ])
      refine wpAnyH_take (i := 3) (oi := { dst := some 36, op := Op.load 33 (Operand.tmp 35), type := 33, pos := "ref.go:56", after := #[{ on := 2, ground := Ground.data }], guard := none }) (v := .agg (stC mi.s)) rfl (by kernel_rfl) (by kernel_rfl) (by kernel_rfl) (fun _ _ _ h => h) (Or.inl ⟨by rfl, fun Wx hS => exec_load_midD 33 (.tmp 35) rfl b 0 rfl (stC mi.s) _ hS.1 Tryz.underlying33 rfl i12⟩) hHeld ?_
      (try simp only [Act.put, List.setIfInBounds_toArray, List.set_cons_zero, List.set_cons_succ])
      refine wpAnyH_take (i := 4) (oi := { dst := some 37, op := Op.move (Operand.tmp 0), type := 36, pos := "ref.go:56", after := #[], guard := none }) (v := ?_) rfl (by kernel_rfl) (by kernel_rfl) (by kernel_rfl) (fun _ _ _ h => h) (Or.inl ⟨by rfl, ?_⟩) hHeld ?_
      rotate_left
      · rintro Wx ⟨hS0, hS1, hS2⟩
        clear hS0
        first | (go_simp; done) | (go_simp; with_reducible rfl)
      (try simp only [Act.put, List.setIfInBounds_toArray, List.set_cons_zero, List.set_cons_succ])
      refine wpAnyH_take (i := 5) (oi := { dst := some 38, op := Op.nilCheck (Operand.tmp 37), type := 0, pos := "ref.go:56", after := #[{ on := 4, ground := Ground.data }], guard := none }) (v := ?_) rfl (by kernel_rfl) (by kernel_rfl) (by kernel_rfl) (fun _ _ _ h => h) (Or.inl ⟨by rfl, ?_⟩) hHeld ?_
      rotate_left
      · rintro Wx ⟨hS0, hS1, hS2⟩
        clear hS0
        first | (go_simp; done) | (go_simp; with_reducible rfl)
      (try simp only [Act.put, List.setIfInBounds_toArray, List.set_cons_zero, List.set_cons_succ])
      refine wpAnyH_take (i := 6) (oi := { dst := some 39, op := Op.fieldAddr 49 (Operand.tmp 38) 1, type := 0, pos := "ref.go:56", after := #[{ on := 5, ground := Ground.data }], guard := none }) (v := ?_) rfl (by kernel_rfl) (by kernel_rfl) (by kernel_rfl) (fun _ _ _ h => h) (Or.inl ⟨by rfl, ?_⟩) hHeld ?_
      rotate_left
      · rintro Wx ⟨hS0, hS1, hS2⟩
        clear hS0
        first | (go_simp; done) | (go_simp; with_reducible rfl)
      (try simp only [Act.put, List.setIfInBounds_toArray, List.set_cons_zero, List.set_cons_succ])
      refine wpAnyH_take (i := 7) (oi := { dst := some 40, op := Op.load 46 (Operand.tmp 39), type := 46, pos := "ref.go:56", after := #[{ on := 6, ground := Ground.data }], guard := none }) (v := ?_) rfl (by kernel_rfl) (by kernel_rfl) (by kernel_rfl) (fun _ _ _ h => h) (Or.inl ⟨by rfl, ?_⟩) hHeld ?_
      rotate_left
      · rintro Wx ⟨hS0, hS1, hS2⟩
        clear hS0
        first | (go_simp; done) | (go_simp; with_reducible rfl)
      (try simp only [Act.put, List.setIfInBounds_toArray, List.set_cons_zero, List.set_cons_succ])
      refine wpAnyH_take (i := 9) (oi := { dst := some 42, op := Op.move (Operand.tmp 0), type := 36, pos := "ref.go:56", after := #[], guard := none }) (v := ?_) rfl (by kernel_rfl) (by kernel_rfl) (by kernel_rfl) (fun _ _ _ h => h) (Or.inl ⟨by rfl, ?_⟩) hHeld ?_
      rotate_left
      · rintro Wx ⟨hS0, hS1, hS2⟩
        clear hS0
        first | (go_simp; done) | (go_simp; with_reducible rfl)
      (try simp only [Act.put, List.setIfInBounds_toArray, List.set_cons_zero, List.set_cons_succ])
      refine wpAnyH_take (i := 10) (oi := { dst := some 43, op := Op.nilCheck (Operand.tmp 42), type := 0, pos := "ref.go:56", after := #[{ on := 9, ground := Ground.data }], guard := none }) (v := ?_) rfl (by kernel_rfl) (by kernel_rfl) (by kernel_rfl) (fun _ _ _ h => h) (Or.inl ⟨by rfl, ?_⟩) hHeld ?_
      rotate_left
      · rintro Wx ⟨hS0, hS1, hS2⟩
        clear hS0
        first | (go_simp; done) | (go_simp; with_reducible rfl)
      (try simp only [Act.put, List.setIfInBounds_toArray, List.set_cons_zero, List.set_cons_succ])
      refine wpAnyH_take (i := 11) (oi := { dst := some 44, op := Op.fieldAddr 49 (Operand.tmp 43) 4, type := 0, pos := "ref.go:56", after := #[{ on := 10, ground := Ground.data }], guard := none }) (v := ?_) rfl (by kernel_rfl) (by kernel_rfl) (by kernel_rfl) (fun _ _ _ h => h) (Or.inl ⟨by rfl, ?_⟩) hHeld ?_
      rotate_left
      · rintro Wx ⟨hS0, hS1, hS2⟩
        clear hS0
        first | (go_simp; done) | (go_simp; with_reducible rfl)
      (try simp only [Act.put, List.setIfInBounds_toArray, List.set_cons_zero, List.set_cons_succ])
      refine wpAnyH_take (i := 12) (oi := { dst := some 45, op := Op.load 3 (Operand.tmp 44), type := 3, pos := "ref.go:56", after := #[{ on := 11, ground := Ground.data }], guard := none }) (v := ?_) rfl (by kernel_rfl) (by kernel_rfl) (by kernel_rfl) (fun _ _ _ h => h) (Or.inl ⟨by rfl, ?_⟩) hHeld ?_
      rotate_left
      · rintro Wx ⟨hS0, hS1, hS2⟩
        clear hS0
        first | (go_simp; done) | (go_simp; with_reducible rfl)
      (try simp only [Act.put, List.setIfInBounds_toArray, List.set_cons_zero, List.set_cons_succ])
      refine wpAnyH_ready (rs := [8, 17]) (by kernel_rfl) (by simp) ?_
      refine AllReadyH.cons (o := { dst := some 41, op := Op.call { callee := Callee.value (Operand.func 35), args := #[Operand.tmp 40], argTypes := #[46] }, type := 57, pos := "ref.go:56", after := #[{ on := 7, ground := Ground.data }], guard := none }) rfl (fun K hK => ?_) (AllReadyH.cons (o := { dst := some 7, op := Op.alloc 85, type := 0, pos := "ref.go:56", after := #[], guard := none }) rfl (fun K hK => ?_) AllReadyH.nil)
      · go_simp
        refine (HD0.out.look (dcx_keeps fb rb) (fun _ ⟨_, _, h⟩ => by
          obtain ⟨_, _, _, _, h2⟩ := h.fl
          have h3 := mview_any h2
          rw [view_isD] at h3
          exact h3)).mono ?_
        rintro e x2 ⟨rfl, h⟩
        have HX2 := Lib.hid h
        clear h
        refine hK.out _ _ ?_ (fun hHeld => ?_)
        · exact ⟨HX2.out.dst, (HX2.out.drow.cell 12).trans rfl, (HX2.out.drow.cell 15).trans rfl⟩
        clear hK K
        (try simp only [Act.put, List.setIfInBounds_toArray, List.set_cons_zero, List.set_cons_succ])
        refine wpAnyH_ready (rs := [13, 17]) (by kernel_rfl) (by simp) ?_
        refine AllReadyH.cons (o := { dst := some 46, op := Op.call { callee := Callee.value (Operand.func 34), args := #[Operand.tmp 36, Operand.tmp 41, Operand.tmp 45], argTypes := #[33, 57, 3] }, type := 88, pos := "ref.go:56", after := #[{ on := 3, ground := Ground.data }, { on := 8, ground := Ground.data }, { on := 12, ground := Ground.data }, { on := 8, ground := Ground.chain }], guard := none }) rfl (fun K hK => ?_) (AllReadyH.cons (o := { dst := some 7, op := Op.alloc 85, type := 0, pos := "ref.go:56", after := #[], guard := none }) rfl (fun K hK => ?_) AllReadyH.nil)
        · go_simp
          refine (HX2.out.aside (dcx_keeps fb rb) (HNX.out _)).mono ?_
          rintro e x3 ⟨rfl, h⟩
          have HX3 := Lib.hid h
          clear h
          refine hK.out _ _ ?_ (fun hHeld => ?_)
          · exact ⟨HX3.out.dst, (HX3.out.drow.cell 12).trans rfl, (HX3.out.drow.cell 15).trans rfl⟩
          clear hK K
          (try simp only [Act.put, List.setIfInBounds_toArray, List.set_cons_zero, List.set_cons_succ])
          refine wpAnyH_take (i := 14) (oi := { dst := some 32, op := Op.move (Operand.tmp 46), type := 88, pos := "ref.go:56", after := #[{ on := 13, ground := Ground.data }], guard := none }) (v := ?_) rfl (by kernel_rfl) (by kernel_rfl) (by kernel_rfl) (fun _ _ _ h => h) (Or.inl ⟨by rfl, ?_⟩) hHeld ?_
          rotate_left
          · rintro Wx ⟨hS0, hS1, hS2⟩
            clear hS0
            first | (go_simp; done) | (go_simp; with_reducible rfl)
          (try simp only [Act.put, List.setIfInBounds_toArray, List.set_cons_zero, List.set_cons_succ])
          refine wpAnyH_take (i := 15) (oi := { dst := some 47, op := Op.extract (Operand.tmp 32) 0, type := 3, pos := "ref.go:56", after := #[{ on := 14, ground := Ground.data }], guard := none }) (v := ?_) rfl (by kernel_rfl) (by kernel_rfl) (by kernel_rfl) (fun _ _ _ h => h) (Or.inl ⟨by rfl, ?_⟩) hHeld ?_
          rotate_left
          · rintro Wx ⟨hS0, hS1, hS2⟩
            clear hS0
            first | (go_simp; done) | (go_simp; with_reducible rfl)
          (try simp only [Act.put, List.setIfInBounds_toArray, List.set_cons_zero, List.set_cons_succ])
          refine wpAnyH_take (i := 16) (oi := { dst := some 48, op := Op.extract (Operand.tmp 32) 1, type := 85, pos := "ref.go:56", after := #[{ on := 14, ground := Ground.data }, { on := 18, ground := Ground.gcOnly Departure.lateStores }], guard := none }) (v := ?_) rfl (by kernel_rfl) (by kernel_rfl) (by kernel_rfl) (fun _ _ _ h => h) (Or.inl ⟨by rfl, ?_⟩) hHeld ?_
          rotate_left
          · rintro Wx ⟨hS0, hS1, hS2⟩
            clear hS0
            first | (go_simp; done) | (go_simp; with_reducible rfl)
          (try simp only [Act.put, List.setIfInBounds_toArray, List.set_cons_zero, List.set_cons_succ])
          refine wpAnyH_ready (rs := [17]) (by kernel_rfl) (by simp) ?_
          refine AllReadyH.cons (o := { dst := some 7, op := Op.alloc 85, type := 0, pos := "ref.go:56", after := #[], guard := none }) rfl (fun K hK => ?_) AllReadyH.nil
          go_simp
          have h : Hold (DcX fb rb) O0 w _ ((x3.heap.size, #[.int .i64 0, .int .i64 0, .int .i64 0, .int .i64 0, .int .i64 0, .int .i64 0, .bool false, .int .i64 0, .int .i64 0, .int .i64 0, .int .i64 0, .int .i64 0, .int .i64 0, .bool false, .bool false, .int .i64 0, .int .i64 0, .int .i64 0, .int .i64 0], 85) :: []) b mi := HX3.out.alloc (dcx_keeps fb rb) #[.int .i64 0, .int .i64 0, .int .i64 0, .int .i64 0, .int .i64 0, .int .i64 0, .bool false, .int .i64 0, .int .i64 0, .int .i64 0, .int .i64 0, .int .i64 0, .int .i64 0, .bool false, .bool false, .int .i64 0, .int .i64 0, .int .i64 0, .int .i64 0] 85
          obtain ⟨X4, hX⟩ : ∃ X, X = x3.heap.size := ⟨_, rfl⟩
          rw [← hX] at h ⊢
          have HX4 := Lib.hid h
          clear h hX
          refine hK.out _ _ ?_ (fun hHeld => ?_)
          · exact ⟨HX4.out.dst, (HX4.out.drow.cell 12).trans rfl, (HX4.out.drow.cell 15).trans rfl⟩
          clear hK K
          (try simp only [Act.put, List.setIfInBounds_toArray, List.set_cons_zero, List.set_cons_succ])
          refine wpAnyH_take (i := 18) (oi := { dst := some 6, op := Op.assign (Operand.tmp 47), type := 3, pos := "ref.go:56", after := #[{ on := 15, ground := Ground.data }, { on := 13, ground := Ground.chain }, { on := 0, ground := Ground.phase }, { on := 1, ground := Ground.phase }, { on := 2, ground := Ground.phase }, { on := 3, ground := Ground.phase }, { on := 4, ground := Ground.phase }, { on := 5, ground := Ground.phase }, { on := 6, ground := Ground.phase }, { on := 7, ground := Ground.phase }, { on := 8, ground := Ground.phase }, { on := 9, ground := Ground.phase }, { on := 10, ground := Ground.phase }, { on := 11, ground := Ground.phase }, { on := 12, ground := Ground.phase }, { on := 13, ground := Ground.phase }, { on := 14, ground := Ground.phase }, { on := 15, ground := Ground.phase }, { on := 16, ground := Ground.textOnly Departure.lateStores }, { on := 17, ground := Ground.phase }], guard := none }) (v := ?_) rfl (by kernel_rfl) (by kernel_rfl) (by kernel_rfl) (fun _ _ _ h => h) (Or.inl ⟨by rfl, ?_⟩) hHeld ?_
          rotate_left
          · rintro Wx ⟨hS0, hS1, hS2⟩
            clear hS0
            first | (go_simp; done) | (go_simp; with_reducible rfl)
          (try simp only [Act.put, List.setIfInBounds_toArray, List.set_cons_zero, List.set_cons_succ])
          refine wpAnyH_ready (rs := [19]) (by kernel_rfl) (by simp) ?_
          refine AllReadyH.cons (o := { dst := none, op := Op.store 85 (Operand.tmp 7) (Operand.tmp 48), type := 0, pos := "ref.go:56", after := #[{ on := 17, ground := Ground.data }, { on := 16, ground := Ground.data }, { on := 18, ground := Ground.chain }, { on := 0, ground := Ground.phase }, { on := 1, ground := Ground.phase }, { on := 2, ground := Ground.phase }, { on := 3, ground := Ground.phase }, { on := 4, ground := Ground.phase }, { on := 5, ground := Ground.phase }, { on := 6, ground := Ground.phase }, { on := 7, ground := Ground.phase }, { on := 8, ground := Ground.phase }, { on := 9, ground := Ground.phase }, { on := 10, ground := Ground.phase }, { on := 11, ground := Ground.phase }, { on := 12, ground := Ground.phase }, { on := 13, ground := Ground.phase }, { on := 14, ground := Ground.phase }, { on := 15, ground := Ground.phase }, { on := 16, ground := Ground.phase }, { on := 17, ground := Ground.phase }, { on := 18, ground := Ground.phase }], guard := none }) rfl (fun K hK => ?_) AllReadyH.nil
          rw [if_pos (by rfl)]
          refine wp_store_row 85 (.tmp 7) (.tmp 48) rfl X4 rs rfl rfl 85 _ HX4.out.row1 (by rw [HZ_rs.out]; exact i19) (by rw [HZ_rs.out]; rfl) H1_rs.out ?_
          have h := HX4.out.setRow (dcx_keeps fb rb) rs
          have HX5 := Lib.hid h
          clear h
          refine hK.out _ _ ?_ (fun hHeld => ?_)
          · exact ⟨HX5.out.dst, (HX5.out.drow.cell 12).trans rfl, (HX5.out.drow.cell 15).trans rfl⟩
          clear hK K
          (try simp only [Act.put])
          refine wpAnyH_done (by kernel_rfl) ?_ _
          go_wp2
          go_meet
          case rel => exact ⟨X4, rfl, rfl, HX5.out⟩
        · go_simp
          have h : Hold (DcX fb rb) O0 w _ ((x2.heap.size, #[.int .i64 0, .int .i64 0, .int .i64 0, .int .i64 0, .int .i64 0, .int .i64 0, .bool false, .int .i64 0, .int .i64 0, .int .i64 0, .int .i64 0, .int .i64 0, .int .i64 0, .bool false, .bool false, .int .i64 0, .int .i64 0, .int .i64 0, .int .i64 0], 85) :: []) b mi := HX2.out.alloc (dcx_keeps fb rb) #[.int .i64 0, .int .i64 0, .int .i64 0, .int .i64 0, .int .i64 0, .int .i64 0, .bool false, .int .i64 0, .int .i64 0, .int .i64 0, .int .i64 0, .int .i64 0, .int .i64 0, .bool false, .bool false, .int .i64 0, .int .i64 0, .int .i64 0, .int .i64 0] 85
          obtain ⟨X6, hX⟩ : ∃ X, X = x2.heap.size := ⟨_, rfl⟩
          rw [← hX] at h ⊢
          have HX6 := Lib.hid h
          clear h hX
          refine hK.out _ _ ?_ (fun hHeld => ?_)
          · exact ⟨HX6.out.dst, (HX6.out.drow.cell 12).trans rfl, (HX6.out.drow.cell 15).trans rfl⟩
          clear hK K
          (try simp only [Act.put, List.setIfInBounds_toArray, List.set_cons_zero, List.set_cons_succ])
          refine wpAnyH_ready (rs := [13]) (by kernel_rfl) (by simp) ?_
          refine AllReadyH.cons (o := { dst := some 46, op := Op.call { callee := Callee.value (Operand.func 34), args := #[Operand.tmp 36, Operand.tmp 41, Operand.tmp 45], argTypes := #[33, 57, 3] }, type := 88, pos := "ref.go:56", after := #[{ on := 3, ground := Ground.data }, { on := 8, ground := Ground.data }, { on := 12, ground := Ground.data }, { on := 8, ground := Ground.chain }], guard := none }) rfl (fun K hK => ?_) AllReadyH.nil
          go_simp
          refine (HX6.out.aside (dcx_keeps fb rb) (HNX.out _)).mono ?_
          rintro e x7 ⟨rfl, h⟩
          have HX7 := Lib.hid h
          clear h
          refine hK.out _ _ ?_ (fun hHeld => ?_)
          · exact ⟨HX7.out.dst, (HX7.out.drow.cell 12).trans rfl, (HX7.out.drow.cell 15).trans rfl⟩
          clear hK K
          (try simp only [Act.put, List.setIfInBounds_toArray, List.set_cons_zero, List.set_cons_succ])
          refine wpAnyH_take (i := 14) (oi := { dst := some 32, op := Op.move (Operand.tmp 46), type := 88, pos := "ref.go:56", after := #[{ on := 13, ground := Ground.data }], guard := none }) (v := ?_) rfl (by kernel_rfl) (by kernel_rfl) (by kernel_rfl) (fun _ _ _ h => h) (Or.inl ⟨by rfl, ?_⟩) hHeld ?_
          rotate_left
          · rintro Wx ⟨hS0, hS1, hS2⟩
            clear hS0
            first | (go_simp; done) | (go_simp; with_reducible rfl)
          (try simp only [Act.put, List.setIfInBounds_toArray, List.set_cons_zero, List.set_cons_succ])
          refine wpAnyH_take (i := 15) (oi := { dst := some 47, op := Op.extract (Operand.tmp 32) 0, type := 3, pos := "ref.go:56", after := #[{ on := 14, ground := Ground.data }], guard := none }) (v := ?_) rfl (by kernel_rfl) (by kernel_rfl) (by kernel_rfl) (fun _ _ _ h => h) (Or.inl ⟨by rfl, ?_⟩) hHeld ?_
          rotate_left
          · rintro Wx ⟨hS0, hS1, hS2⟩
            clear hS0
            first | (go_simp; done) | (go_simp; with_reducible rfl)
          (try simp only [Act.put, List.setIfInBounds_toArray, List.set_cons_zero, List.set_cons_succ])
          refine wpAnyH_take (i := 16) (oi := { dst := some 48, op := Op.extract (Operand.tmp 32) 1, type := 85, pos := "ref.go:56", after := #[{ on := 14, ground := Ground.data }, { on := 18, ground := Ground.gcOnly Departure.lateStores }], guard := none }) (v := ?_) rfl (by kernel_rfl) (by kernel_rfl) (by kernel_rfl) (fun _ _ _ h => h) (Or.inl ⟨by rfl, ?_⟩) hHeld ?_
          rotate_left
          · rintro Wx ⟨hS0, hS1, hS2⟩
            clear hS0
            first | (go_simp; done) | (go_simp; with_reducible rfl)
          (try simp only [Act.put, List.setIfInBounds_toArray, List.set_cons_zero, List.set_cons_succ])
          refine wpAnyH_take (i := 18) (oi := { dst := some 6, op := Op.assign (Operand.tmp 47), type := 3, pos := "ref.go:56", after := #[{ on := 15, ground := Ground.data }, { on := 13, ground := Ground.chain }, { on := 0, ground := Ground.phase }, { on := 1, ground := Ground.phase }, { on := 2, ground := Ground.phase }, { on := 3, ground := Ground.phase }, { on := 4, ground := Ground.phase }, { on := 5, ground := Ground.phase }, { on := 6, ground := Ground.phase }, { on := 7, ground := Ground.phase }, { on := 8, ground := Ground.phase }, { on := 9, ground := Ground.phase }, { on := 10, ground := Ground.phase }, { on := 11, ground := Ground.phase }, { on := 12, ground := Ground.phase }, { on := 13, ground := Ground.phase }, { on := 14, ground := Ground.phase }, { on := 15, ground := Ground.phase }, { on := 16, ground := Ground.textOnly Departure.lateStores }, { on := 17, ground := Ground.phase }], guard := none }) (v := ?_) rfl (by kernel_rfl) (by kernel_rfl) (by kernel_rfl) (fun _ _ _ h => h) (Or.inl ⟨by rfl, ?_⟩) hHeld ?_
          rotate_left
          · rintro Wx ⟨hS0, hS1, hS2⟩
            clear hS0
            first | (go_simp; done) | (go_simp; with_reducible rfl)
          (try simp only [Act.put, List.setIfInBounds_toArray, List.set_cons_zero, List.set_cons_succ])
          refine wpAnyH_ready (rs := [19]) (by kernel_rfl) (by simp) ?_
          refine AllReadyH.cons (o := { dst := none, op := Op.store 85 (Operand.tmp 7) (Operand.tmp 48), type := 0, pos := "ref.go:56", after := #[{ on := 17, ground := Ground.data }, { on := 16, ground := Ground.data }, { on := 18, ground := Ground.chain }, { on := 0, ground := Ground.phase }, { on := 1, ground := Ground.phase }, { on := 2, ground := Ground.phase }, { on := 3, ground := Ground.phase }, { on := 4, ground := Ground.phase }, { on := 5, ground := Ground.phase }, { on := 6, ground := Ground.phase }, { on := 7, ground := Ground.phase }, { on := 8, ground := Ground.phase }, { on := 9, ground := Ground.phase }, { on := 10, ground := Ground.phase }, { on := 11, ground := Ground.phase }, { on := 12, ground := Ground.phase }, { on := 13, ground := Ground.phase }, { on := 14, ground := Ground.phase }, { on := 15, ground := Ground.phase }, { on := 16, ground := Ground.phase }, { on := 17, ground := Ground.phase }, { on := 18, ground := Ground.phase }], guard := none }) rfl (fun K hK => ?_) AllReadyH.nil
          rw [if_pos (by rfl)]
          refine wp_store_row 85 (.tmp 7) (.tmp 48) rfl X6 rs rfl rfl 85 _ HX7.out.row1 (by rw [HZ_rs.out]; exact i19) (by rw [HZ_rs.out]; rfl) H1_rs.out ?_
          have h := HX7.out.setRow (dcx_keeps fb rb) rs
          have HX8 := Lib.hid h
          clear h
          refine hK.out _ _ ?_ (fun hHeld => ?_)
          · exact ⟨HX8.out.dst, (HX8.out.drow.cell 12).trans rfl, (HX8.out.drow.cell 15).trans rfl⟩
          clear hK K
          (try simp only [Act.put])
          refine wpAnyH_done (by kernel_rfl) ?_ _
          go_wp2
          go_meet
          case rel => exact ⟨X6, rfl, rfl, HX8.out⟩
      · go_simp
        have h : Hold (DcX fb rb) O0 w _ ((wr.heap.size, #[.int .i64 0, .int .i64 0, .int .i64 0, .int .i64 0, .int .i64 0, .int .i64 0, .bool false, .int .i64 0, .int .i64 0, .int .i64 0, .int .i64 0, .int .i64 0, .int .i64 0, .bool false, .bool false, .int .i64 0, .int .i64 0, .int .i64 0, .int .i64 0], 85) :: []) b mi := HD0.out.alloc (dcx_keeps fb rb) #[.int .i64 0, .int .i64 0, .int .i64 0, .int .i64 0, .int .i64 0, .int .i64 0, .bool false, .int .i64 0, .int .i64 0, .int .i64 0, .int .i64 0, .int .i64 0, .int .i64 0, .bool false, .bool false, .int .i64 0, .int .i64 0, .int .i64 0, .int .i64 0] 85
        obtain ⟨X9, hX⟩ : ∃ X, X = wr.heap.size := ⟨_, rfl⟩
        rw [← hX] at h ⊢
        have HX9 := Lib.hid h
        clear h hX
        refine hK.out _ _ ?_ (fun hHeld => ?_)
        · exact ⟨HX9.out.dst, (HX9.out.drow.cell 12).trans rfl, (HX9.out.drow.cell 15).trans rfl⟩
        clear hK K
        (try simp only [Act.put, List.setIfInBounds_toArray, List.set_cons_zero, List.set_cons_succ])
        refine wpAnyH_ready (rs := [8]) (by kernel_rfl) (by simp) ?_
        refine AllReadyH.cons (o := { dst := some 41, op := Op.call { callee := Callee.value (Operand.func 35), args := #[Operand.tmp 40], argTypes := #[46] }, type := 57, pos := "ref.go:56", after := #[{ on := 7, ground := Ground.data }], guard := none }) rfl (fun K hK => ?_) AllReadyH.nil
        go_simp
        refine (HX9.out.look (dcx_keeps fb rb) (fun _ ⟨_, _, h⟩ => by
          obtain ⟨_, _, _, _, h2⟩ := h.fl
          have h3 := mview_any h2
          rw [view_isD] at h3
          exact h3)).mono ?_
        rintro e x10 ⟨rfl, h⟩
        have HX10 := Lib.hid h
        clear h
        refine hK.out _ _ ?_ (fun hHeld => ?_)
        · exact ⟨HX10.out.dst, (HX10.out.drow.cell 12).trans rfl, (HX10.out.drow.cell 15).trans rfl⟩
        clear hK K
        (try simp only [Act.put, List.setIfInBounds_toArray, List.set_cons_zero, List.set_cons_succ])
        refine wpAnyH_ready (rs := [13]) (by kernel_rfl) (by simp) ?_
        refine AllReadyH.cons (o := { dst := some 46, op := Op.call { callee := Callee.value (Operand.func 34), args := #[Operand.tmp 36, Operand.tmp 41, Operand.tmp 45], argTypes := #[33, 57, 3] }, type := 88, pos := "ref.go:56", after := #[{ on := 3, ground := Ground.data }, { on := 8, ground := Ground.data }, { on := 12, ground := Ground.data }, { on := 8, ground := Ground.chain }], guard := none }) rfl (fun K hK => ?_) AllReadyH.nil
        go_simp
        refine (HX10.out.aside (dcx_keeps fb rb) (HNX.out _)).mono ?_
        rintro e x11 ⟨rfl, h⟩
        have HX11 := Lib.hid h
        clear h
        refine hK.out _ _ ?_ (fun hHeld => ?_)
        · exact ⟨HX11.out.dst, (HX11.out.drow.cell 12).trans rfl, (HX11.out.drow.cell 15).trans rfl⟩
        clear hK K
        (try simp only [Act.put, List.setIfInBounds_toArray, List.set_cons_zero, List.set_cons_succ])
        refine wpAnyH_take (i := 14) (oi := { dst := some 32, op := Op.move (Operand.tmp 46), type := 88, pos := "ref.go:56", after := #[{ on := 13, ground := Ground.data }], guard := none }) (v := ?_) rfl (by kernel_rfl) (by kernel_rfl) (by kernel_rfl) (fun _ _ _ h => h) (Or.inl ⟨by rfl, ?_⟩) hHeld ?_
        rotate_left
        · rintro Wx ⟨hS0, hS1, hS2⟩
          clear hS0
          first | (go_simp; done) | (go_simp; with_reducible rfl)
        (try simp only [Act.put, List.setIfInBounds_toArray, List.set_cons_zero, List.set_cons_succ])
        refine wpAnyH_take (i := 15) (oi := { dst := some 47, op := Op.extract (Operand.tmp 32) 0, type := 3, pos := "ref.go:56", after := #[{ on := 14, ground := Ground.data }], guard := none }) (v := ?_) rfl (by kernel_rfl) (by kernel_rfl) (by kernel_rfl) (fun _ _ _ h => h) (Or.inl ⟨by rfl, ?_⟩) hHeld ?_
        rotate_left
        · rintro Wx ⟨hS0, hS1, hS2⟩
          clear hS0
          first | (go_simp; done) | (go_simp; with_reducible rfl)
        (try simp only [Act.put, List.setIfInBounds_toArray, List.set_cons_zero, List.set_cons_succ])
        refine wpAnyH_take (i := 16) (oi := { dst := some 48, op := Op.extract (Operand.tmp 32) 1, type := 85, pos := "ref.go:56", after := #[{ on := 14, ground := Ground.data }, { on := 18, ground := Ground.gcOnly Departure.lateStores }], guard := none }) (v := ?_) rfl (by kernel_rfl) (by kernel_rfl) (by kernel_rfl) (fun _ _ _ h => h) (Or.inl ⟨by rfl, ?_⟩) hHeld ?_
        rotate_left
        · rintro Wx ⟨hS0, hS1, hS2⟩
          clear hS0
          first | (go_simp; done) | (go_simp; with_reducible rfl)
        (try simp only [Act.put, List.setIfInBounds_toArray, List.set_cons_zero, List.set_cons_succ])
        refine wpAnyH_take (i := 18) (oi := { dst := some 6, op := Op.assign (Operand.tmp 47), type := 3, pos := "ref.go:56", after := #[{ on := 15, ground := Ground.data }, { on := 13, ground := Ground.chain }, { on := 0, ground := Ground.phase }, { on := 1, ground := Ground.phase }, { on := 2, ground := Ground.phase }, { on := 3, ground := Ground.phase }, { on := 4, ground := Ground.phase }, { on := 5, ground := Ground.phase }, { on := 6, ground := Ground.phase }, { on := 7, ground := Ground.phase }, { on := 8, ground := Ground.phase }, { on := 9, ground := Ground.phase }, { on := 10, ground := Ground.phase }, { on := 11, ground := Ground.phase }, { on := 12, ground := Ground.phase }, { on := 13, ground := Ground.phase }, { on := 14, ground := Ground.phase }, { on := 15, ground := Ground.phase }, { on := 16, ground := Ground.textOnly Departure.lateStores }, { on := 17, ground := Ground.phase }], guard := none }) (v := ?_) rfl (by kernel_rfl) (by kernel_rfl) (by kernel_rfl) (fun _ _ _ h => h) (Or.inl ⟨by rfl, ?_⟩) hHeld ?_
        rotate_left
        · rintro Wx ⟨hS0, hS1, hS2⟩
          clear hS0
          first | (go_simp; done) | (go_simp; with_reducible rfl)
        (try simp only [Act.put, List.setIfInBounds_toArray, List.set_cons_zero, List.set_cons_succ])
        refine wpAnyH_ready (rs := [19]) (by kernel_rfl) (by simp) ?_
        refine AllReadyH.cons (o := { dst := none, op := Op.store 85 (Operand.tmp 7) (Operand.tmp 48), type := 0, pos := "ref.go:56", after := #[{ on := 17, ground := Ground.data }, { on := 16, ground := Ground.data }, { on := 18, ground := Ground.chain }, { on := 0, ground := Ground.phase }, { on := 1, ground := Ground.phase }, { on := 2, ground := Ground.phase }, { on := 3, ground := Ground.phase }, { on := 4, ground := Ground.phase }, { on := 5, ground := Ground.phase }, { on := 6, ground := Ground.phase }, { on := 7, ground := Ground.phase }, { on := 8, ground := Ground.phase }, { on := 9, ground := Ground.phase }, { on := 10, ground := Ground.phase }, { on := 11, ground := Ground.phase }, { on := 12, ground := Ground.phase }, { on := 13, ground := Ground.phase }, { on := 14, ground := Ground.phase }, { on := 15, ground := Ground.phase }, { on := 16, ground := Ground.phase }, { on := 17, ground := Ground.phase }, { on := 18, ground := Ground.phase }], guard := none }) rfl (fun K hK => ?_) AllReadyH.nil
        rw [if_pos (by rfl)]
        refine wp_store_row 85 (.tmp 7) (.tmp 48) rfl X9 rs rfl rfl 85 _ HX11.out.row1 (by rw [HZ_rs.out]; exact i19) (by rw [HZ_rs.out]; rfl) H1_rs.out ?_
        have h := HX11.out.setRow (dcx_keeps fb rb) rs
        have HX12 := Lib.hid h
        clear h
        refine hK.out _ _ ?_ (fun hHeld => ?_)
        · exact ⟨HX12.out.dst, (HX12.out.drow.cell 12).trans rfl, (HX12.out.drow.cell 15).trans rfl⟩
        clear hK K
        (try simp only [Act.put])
        refine wpAnyH_done (by kernel_rfl) ?_ _
        go_wp2
        go_meet
        case rel => exact ⟨X9, rfl, rfl, HX12.out⟩
    case rest =>
      clear HO HNX
      obtain ⟨Y, rfl, rfl, h⟩ := hcut
      have HC1 := Lib.hid h
      clear h
      rcases HAR.out with rfl | rfl | rfl | rfl | rfl | rfl | rfl
      · go_wp2
        go_ret
        exact ⟨by rw [HSM.out, HEQ.out]; rfl, by rw [HSM.out, HEQ.out]; exact HC1.out.nil.fin⟩
      · have HP2 := Lib.hid (HPUT.out (HOK.out (by decide) (by decide)))
        go_wp2_with (first | (refine wpList_load_any (by rfl) 85 (.tmp 7) rfl Y rfl 85 rs (0, 0) _ HC1.out.row1 Tryz.underlying85 rfl (by rw [HZ_rs.out]; exact i19) ?_))
        refine (HP2.out _ _ HC1.out).mono ?_
        rintro e y1 ⟨rfl, h⟩
        have HY1 := Lib.hid h
        clear h HC1 HPUT HP2
        go_wp2
        go_ret
        exact ⟨by rw [HSM.out, HEQ.out]; rfl, by rw [HSM.out, HEQ.out]; exact HY1.out.nil.fin⟩
      · obtain ⟨pk, hpk⟩ : ∃ x, x = (putM mi r).2 := ⟨_, rfl⟩
        have HPK := Lib.hid hpk
        have HP2 := Lib.hid (HPUT.out (HOK.out (by decide) (by decide)))
        rw [← hpk] at HP2
        go_wp2_with (first | (refine wpList_load_any (by rfl) 85 (.tmp 7) rfl Y rfl 85 rs (0, 0) _ HC1.out.row1 Tryz.underlying85 rfl (by rw [HZ_rs.out]; exact i19) ?_))
        refine (HP2.out _ _ HC1.out).mono ?_
        rintro e y1 ⟨rfl, h⟩
        have HY1 := Lib.hid h
        clear h HC1 HPUT HP2 hpk
        cases pk with
        | false =>
          go_wp2
          go_ret
          exact ⟨by rw [HSM.out, HEQ.out, if_neg (by decide), if_neg (by decide), if_neg (by decide), if_pos HPK.out.symm]; rfl, by rw [HSM.out, HEQ.out, if_neg (by decide), if_neg (by decide), if_neg (by decide), if_pos HPK.out.symm]; exact HY1.out.nil.fin⟩
        | true =>
          have HFG := Lib.hid (far_go HFR.out HAA.out.symm HRR.out.symm (by omega) HPK.out.symm)
          go_wp2
          go_roundg (4 - (ni + 1))
          case measure => have := HG.out; have := HNI.out; omega
          case rel => exact ⟨(putM mi r).1, ni + 1, Lib.hid (by have := HNI.out; omega), by rw [wni], Lib.hid (by have h := HFG.out.1; rw [show 4 - ni - 1 = 4 - (ni + 1) by omega] at h; exact h), Lib.hid HY1.out.nil⟩
      · obtain ⟨pk, hpk⟩ : ∃ x, x = (putM mi r).2 := ⟨_, rfl⟩
        have HPK := Lib.hid hpk
        have HP2 := Lib.hid (HPUT.out (HOK.out (by decide) (by decide)))
        rw [← hpk] at HP2
        go_wp2_with (first | (refine wpList_load_any (by rfl) 85 (.tmp 7) rfl Y rfl 85 rs (0, 0) _ HC1.out.row1 Tryz.underlying85 rfl (by rw [HZ_rs.out]; exact i19) ?_))
        refine (HP2.out _ _ HC1.out).mono ?_
        rintro e y1 ⟨rfl, h⟩
        have HY1 := Lib.hid h
        clear h HC1 HPUT HP2 hpk
        cases pk with
        | false =>
          go_wp2
          go_ret
          exact ⟨by rw [HSM.out, HEQ.out, if_neg (by decide), if_neg (by decide), if_neg (by decide), if_pos HPK.out.symm]; rfl, by rw [HSM.out, HEQ.out, if_neg (by decide), if_neg (by decide), if_neg (by decide), if_pos HPK.out.symm]; exact HY1.out.nil.fin⟩
        | true =>
          have HFG := Lib.hid (far_go HFR.out HAA.out.symm HRR.out.symm (by omega) HPK.out.symm)
          go_wp2
          go_roundg (4 - (ni + 1))
          case measure => have := HG.out; have := HNI.out; omega
          case rel => exact ⟨(putM mi r).1, ni + 1, Lib.hid (by have := HNI.out; omega), by rw [wni], Lib.hid (by have h := HFG.out.1; rw [show 4 - ni - 1 = 4 - (ni + 1) by omega] at h; exact h), Lib.hid HY1.out.nil⟩
      · have HP2 := Lib.hid (HPUT.out (HOK.out (by decide) (by decide)))
        go_wp2_with (first | (refine wpList_load_any (by rfl) 85 (.tmp 7) rfl Y rfl 85 rs (0, 0) _ HC1.out.row1 Tryz.underlying85 rfl (by rw [HZ_rs.out]; exact i19) ?_))
        refine (HP2.out _ _ HC1.out).mono ?_
        rintro e y1 ⟨rfl, h⟩
        have HY1 := Lib.hid h
        clear h HC1 HPUT HP2
        go_wp2
        go_ret
        exact ⟨by rw [HSM.out, HEQ.out]; rfl, by rw [HSM.out, HEQ.out]; exact HY1.out.nil.fin⟩
      · obtain ⟨tm, htm⟩ : ∃ x, x = toldM mi := ⟨_, rfl⟩
        obtain ⟨jj, hjj⟩ : ∃ x, x = setJ mi.s.gn (1 - mi.s.ac) mi.ro mi.fu mi.tries := ⟨_, rfl⟩
        have HTM := Lib.hid htm
        have HSE : Hid (∀ W L, Hold (DcX fb rb) O0 w W L b mi → Calls Tryz.prog 36 #[ptr rb, .agg #[.int .i64 (1 - mi.s.ac), .int .i64 mi.s.gn], .int .i64 mi.tries] W fun e w' => e = .returned (.tuple #[.int .i64 tm, .int .i64 (jj : Int)]) ∧ Hold (DcX fb rb) O0 w w' L b (callM mi)) := Lib.hid (fun W L h => by
          rw [htm, hjj]
          exact h.drouter (fun _ h => dset_at h (by rw [HFR.out.ro, HFR.out.fu]; exact HBD.out) (by have := HN.out; omega)))
        have HRT : Hid (goM 4 ms = routeM mi) := Lib.hid HEQ.out
        have HTF : Hid (0 ≤ mi.tick ∧ mi.tick ≤ 1073741824) := Lib.hid (by rw [HFR.out.tick]; exact HMS.out.tick)
        have HOK8 : Hid (OkR mi.s (rec8 mi.s.gn mi.tick)) := Lib.hid (okr_rec8 HFR.out.set.right (next_route HAA.out.symm) HTF.out)
        have HSG : Hid ((putM (callM mi) (rec8 mi.s.gn mi.tick)).1.s.gn = mi.s.gn) := Lib.hid (by
          show (stepS mi.s (rec8 mi.s.gn mi.tick)).1.gn = _
          rw [stp_apply HFR.out.set.right (next_route HAA.out.symm) HTF.out]
          rfl)
        clear htm hjj HPUT HEQ
        have wac : wrap64 (1 - mi.s.ac) = 1 - mi.s.ac := by unfold wrap64; have := (right_in HFR.out.set.right).1; omega
        have wac2 : IntKind.i64.wrap (1 - mi.s.ac) = 1 - mi.s.ac := IntWalk.i64_in _ (by have := (right_in HFR.out.set.right).1; omega)
        have HSET := HSE
        clear HSE
        go_upto_region 10 with (fail)
        have HD0 := Lib.hid (HC1.out.drew (dcx_keeps fb rb))
        clear HC1
        refine wp_region_held_drew (S := fun Wx => Wx.cell? ⟨b, 1, none⟩ = some (.int .i64 mi.s.ac) ∧ Wx.cell? ⟨b, 9, none⟩ = some (.int .i64 mi.s.gn)) (by kernel_rfl) ⟨(HD0.out.drow.cell 1).trans rfl, (HD0.out.drow.cell 9).trans rfl⟩ (fun hHeld => ?_)
        refine wpAnyH_take (i := 0) (oi := { dst := some 53, op := Op.move (Operand.tmp 0), type := 36, pos := "ref.go:61", after := #[], guard := none }) (v := ?_) rfl (by kernel_rfl) (by kernel_rfl) (by kernel_rfl) (fun _ _ _ h => h) (Or.inl ⟨by rfl, ?_⟩) hHeld ?_
        rotate_left
        · rintro Wx ⟨hS0, hS1⟩
          first | (go_simp; done) | (go_simp; with_reducible rfl)
        (try simp only [Act.put, List.setIfInBounds_toArray, List.set_cons_zero, List.set_cons_succ])
        refine wpAnyH_take (i := 1) (oi := { dst := some 54, op := Op.nilCheck (Operand.tmp 53), type := 0, pos := "ref.go:61", after := #[{ on := 0, ground := Ground.data }], guard := none }) (v := ?_) rfl (by kernel_rfl) (by kernel_rfl) (by kernel_rfl) (fun _ _ _ h => h) (Or.inl ⟨by rfl, ?_⟩) hHeld ?_
        rotate_left
        · rintro Wx ⟨hS0, hS1⟩
          first | (go_simp; done) | (go_simp; with_reducible rfl)
        (try simp only [Act.put, List.setIfInBounds_toArray, List.set_cons_zero, List.set_cons_succ])
        refine wpAnyH_take (i := 2) (oi := { dst := some 55, op := Op.fieldAddr 49 (Operand.tmp 54) 0, type := 0, pos := "ref.go:61", after := #[{ on := 1, ground := Ground.data }], guard := none }) (v := ?_) rfl (by kernel_rfl) (by kernel_rfl) (by kernel_rfl) (fun _ _ _ h => h) (Or.inl ⟨by rfl, ?_⟩) hHeld ?_
        rotate_left
        · rintro Wx ⟨hS0, hS1⟩
          first | (go_simp; done) | (go_simp; with_reducible rfl)
        (try simp only [Act.put, List.setIfInBounds_toArray, List.set_cons_zero, List.set_cons_succ])
        refine wpAnyH_take (i := 3) (oi := { dst := some 56, op := Op.fieldAddr 33 (Operand.tmp 55) 1, type := 0, pos := "ref.go:61", after := #[{ on := 2, ground := Ground.data }], guard := none }) (v := ?_) rfl (by kernel_rfl) (by kernel_rfl) (by kernel_rfl) (fun _ _ _ h => h) (Or.inl ⟨by rfl, ?_⟩) hHeld ?_
        rotate_left
        · rintro Wx ⟨hS0, hS1⟩
          first | (go_simp; done) | (go_simp; with_reducible rfl)
        (try simp only [Act.put, List.setIfInBounds_toArray, List.set_cons_zero, List.set_cons_succ])
        refine wpAnyH_take (i := 4) (oi := { dst := some 57, op := Op.load 3 (Operand.tmp 56), type := 3, pos := "ref.go:61", after := #[{ on := 3, ground := Ground.data }], guard := none }) (v := ?_) rfl (by kernel_rfl) (by kernel_rfl) (by kernel_rfl) (fun _ _ _ h => h) (Or.inl ⟨by rfl, ?_⟩) hHeld ?_
        rotate_left
        · rintro Wx ⟨hS0, hS1⟩
          first | (go_simp; done) | (go_simp; with_reducible rfl)
        (try simp only [Act.put, List.setIfInBounds_toArray, List.set_cons_zero, List.set_cons_succ])
        refine wpAnyH_take (i := 5) (oi := { dst := some 58, op := Op.binOp BinOp.sub 3 (Operand.const (Value.int IntKind.i64 1)) (Operand.tmp 57) 3, type := 3, pos := "ref.go:61", after := #[{ on := 4, ground := Ground.data }], guard := none }) (v := ?_) rfl (by kernel_rfl) (by kernel_rfl) (by kernel_rfl) (fun _ _ _ h => h) (Or.inl ⟨by rfl, ?_⟩) hHeld ?_
        rotate_left
        · rintro Wx ⟨hS0, hS1⟩
          first | (go_simp; done) | (go_simp; with_reducible rfl)
        (try simp only [Act.put, List.setIfInBounds_toArray, List.set_cons_zero, List.set_cons_succ])
        refine wpAnyH_take (i := 6) (oi := { dst := some 59, op := Op.move (Operand.tmp 0), type := 36, pos := "ref.go:61", after := #[], guard := none }) (v := ?_) rfl (by kernel_rfl) (by kernel_rfl) (by kernel_rfl) (fun _ _ _ h => h) (Or.inl ⟨by rfl, ?_⟩) hHeld ?_
        rotate_left
        · rintro Wx ⟨hS0, hS1⟩
          first | (go_simp; done) | (go_simp; with_reducible rfl)
        (try simp only [Act.put, List.setIfInBounds_toArray, List.set_cons_zero, List.set_cons_succ])
        refine wpAnyH_take (i := 7) (oi := { dst := some 60, op := Op.nilCheck (Operand.tmp 59), type := 0, pos := "ref.go:61", after := #[{ on := 6, ground := Ground.data }], guard := none }) (v := ?_) rfl (by kernel_rfl) (by kernel_rfl) (by kernel_rfl) (fun _ _ _ h => h) (Or.inl ⟨by rfl, ?_⟩) hHeld ?_
        rotate_left
        · rintro Wx ⟨hS0, hS1⟩
          first | (go_simp; done) | (go_simp; with_reducible rfl)
        (try simp only [Act.put, List.setIfInBounds_toArray, List.set_cons_zero, List.set_cons_succ])
        refine wpAnyH_take (i := 8) (oi := { dst := some 61, op := Op.fieldAddr 49 (Operand.tmp 60) 0, type := 0, pos := "ref.go:61", after := #[{ on := 7, ground := Ground.data }], guard := none }) (v := ?_) rfl (by kernel_rfl) (by kernel_rfl) (by kernel_rfl) (fun _ _ _ h => h) (Or.inl ⟨by rfl, ?_⟩) hHeld ?_
        rotate_left
        · rintro Wx ⟨hS0, hS1⟩
          first | (go_simp; done) | (go_simp; with_reducible rfl)
        (try simp only [Act.put, List.setIfInBounds_toArray, List.set_cons_zero, List.set_cons_succ])
        refine wpAnyH_take (i := 9) (oi := { dst := some 62, op := Op.fieldAddr 33 (Operand.tmp 61) 6, type := 0, pos := "ref.go:61", after := #[{ on := 8, ground := Ground.data }], guard := none }) (v := ?_) rfl (by kernel_rfl) (by kernel_rfl) (by kernel_rfl) (fun _ _ _ h => h) (Or.inl ⟨by rfl, ?_⟩) hHeld ?_
        rotate_left
        · rintro Wx ⟨hS0, hS1⟩
          first | (go_simp; done) | (go_simp; with_reducible rfl)
        (try simp only [Act.put, List.setIfInBounds_toArray, List.set_cons_zero, List.set_cons_succ])
        refine wpAnyH_take (i := 10) (oi := { dst := some 63, op := Op.load 3 (Operand.tmp 62), type := 3, pos := "ref.go:61", after := #[{ on := 9, ground := Ground.data }], guard := none }) (v := ?_) rfl (by kernel_rfl) (by kernel_rfl) (by kernel_rfl) (fun _ _ _ h => h) (Or.inl ⟨by rfl, ?_⟩) hHeld ?_
        rotate_left
        · rintro Wx ⟨hS0, hS1⟩
          first | (go_simp; done) | (go_simp; with_reducible rfl)
        (try simp only [Act.put, List.setIfInBounds_toArray, List.set_cons_zero, List.set_cons_succ])
        refine wpAnyH_take (i := 11) (oi := { dst := some 64, op := Op.build 55 #[(0, Operand.tmp 58), (1, Operand.tmp 63)], type := 55, pos := "ref.go:61", after := #[{ on := 5, ground := Ground.data }, { on := 10, ground := Ground.data }], guard := none }) (v := ?_) rfl (by kernel_rfl) (by kernel_rfl) (by kernel_rfl) (fun _ _ _ h => h) (Or.inl ⟨by rfl, ?_⟩) hHeld ?_
        rotate_left
        · rintro Wx ⟨hS0, hS1⟩
          first | (go_simp; done) | (go_simp; with_reducible rfl)
        (try simp only [Act.put, List.setIfInBounds_toArray, List.set_cons_zero, List.set_cons_succ])
        refine wpAnyH_ready (rs := [12]) (by kernel_rfl) (by simp) ?_
        refine AllReadyH.cons (o := { dst := some 8, op := Op.alloc 55, type := 0, pos := "ref.go:61", after := #[], guard := none }) rfl (fun K hK => ?_) AllReadyH.nil
        go_simp
        have h : Hold (DcX fb rb) O0 w _ ((wc.heap.size, #[.int .i64 0, .int .i64 0], 55) :: [(Y, rs, 85)]) b mi := HD0.out.alloc (dcx_keeps fb rb) #[.int .i64 0, .int .i64 0] 55
        obtain ⟨X13, hX⟩ : ∃ X, X = wc.heap.size := ⟨_, rfl⟩
        rw [← hX] at h ⊢
        have HX13 := Lib.hid h
        clear h hX
        refine hK.out _ _ ?_ (fun hHeld => ?_)
        · exact ⟨(HX13.out.drow.cell 1).trans rfl, (HX13.out.drow.cell 9).trans rfl⟩
        clear hK K
        (try simp only [Act.put, List.setIfInBounds_toArray, List.set_cons_zero, List.set_cons_succ])
        refine wpAnyH_ready (rs := [13]) (by kernel_rfl) (by simp) ?_
        refine AllReadyH.cons (o := { dst := none, op := Op.store 55 (Operand.tmp 8) (Operand.tmp 64), type := 0, pos := "ref.go:61", after := #[{ on := 12, ground := Ground.data }, { on := 11, ground := Ground.data }, { on := 0, ground := Ground.phase }, { on := 1, ground := Ground.phase }, { on := 2, ground := Ground.phase }, { on := 3, ground := Ground.phase }, { on := 4, ground := Ground.phase }, { on := 5, ground := Ground.phase }, { on := 6, ground := Ground.phase }, { on := 7, ground := Ground.phase }, { on := 8, ground := Ground.phase }, { on := 9, ground := Ground.phase }, { on := 10, ground := Ground.phase }, { on := 11, ground := Ground.phase }, { on := 12, ground := Ground.phase }], guard := none }) rfl (fun K hK => ?_) AllReadyH.nil
        rw [if_pos (by rfl)]
        refine wp_store_row 55 (.tmp 8) (.tmp 64) rfl X13 #[.int .i64 (1 - mi.s.ac), .int .i64 mi.s.gn] rfl rfl 55 _ HX13.out.row1 i2c rfl (by simp [Value.oneCell']) ?_
        have h := HX13.out.setRow (dcx_keeps fb rb) #[.int .i64 (1 - mi.s.ac), .int .i64 mi.s.gn]
        have HX14 := Lib.hid h
        clear h
        refine hK.out _ _ ?_ (fun hHeld => ?_)
        · exact ⟨(HX14.out.drow.cell 1).trans rfl, (HX14.out.drow.cell 9).trans rfl⟩
        clear hK K
        (try simp only [Act.put])
        refine wpAnyH_done (by kernel_rfl) ?_ _
        go_upto_region 11 with (fail)
        have HE0 := Lib.hid (HX14.out.drew (dcx_keeps fb rb))
        clear HX14
        refine wp_region_held_drew (S := fun Wx => Wx.cell? ⟨b, 13, none⟩ = some (ptr rb) ∧ Wx.cell? ⟨b, 14, none⟩ = some (.int .i64 mi.tries) ∧ Rw Wx X13 #[.int .i64 (1 - mi.s.ac), .int .i64 mi.s.gn] 55) (by kernel_rfl) ⟨(HE0.out.drow.cell 13).trans rfl, (HE0.out.drow.cell 14).trans rfl, HE0.out.row1⟩ (fun hHeld => ?_)
        refine wpAnyH_take (i := 0) (oi := { dst := some 66, op := Op.move (Operand.tmp 0), type := 36, pos := "ref.go:62", after := #[], guard := none }) (v := ?_) rfl (by kernel_rfl) (by kernel_rfl) (by kernel_rfl) (fun _ _ _ h => h) (Or.inl ⟨by rfl, ?_⟩) hHeld ?_
        rotate_left
        · rintro Wx ⟨hS0, hS1, hS2⟩
          clear hS2
          first | (go_simp; done) | (go_simp; with_reducible rfl)
        (try simp only [Act.put, List.setIfInBounds_toArray, List.set_cons_zero, List.set_cons_succ])
        refine wpAnyH_take (i := 1) (oi := { dst := some 67, op := Op.nilCheck (Operand.tmp 66), type := 0, pos := "ref.go:62", after := #[{ on := 0, ground := Ground.data }], guard := none }) (v := ?_) rfl (by kernel_rfl) (by kernel_rfl) (by kernel_rfl) (fun _ _ _ h => h) (Or.inl ⟨by rfl, ?_⟩) hHeld ?_
        rotate_left
        · rintro Wx ⟨hS0, hS1, hS2⟩
          clear hS2
          first | (go_simp; done) | (go_simp; with_reducible rfl)
        (try simp only [Act.put, List.setIfInBounds_toArray, List.set_cons_zero, List.set_cons_succ])
        refine wpAnyH_take (i := 2) (oi := { dst := some 68, op := Op.fieldAddr 49 (Operand.tmp 67) 2, type := 0, pos := "ref.go:62", after := #[{ on := 1, ground := Ground.data }], guard := none }) (v := ?_) rfl (by kernel_rfl) (by kernel_rfl) (by kernel_rfl) (fun _ _ _ h => h) (Or.inl ⟨by rfl, ?_⟩) hHeld ?_
        rotate_left
        · rintro Wx ⟨hS0, hS1, hS2⟩
          clear hS2
          first | (go_simp; done) | (go_simp; with_reducible rfl)
        (try simp only [Act.put, List.setIfInBounds_toArray, List.set_cons_zero, List.set_cons_succ])
        refine wpAnyH_take (i := 3) (oi := { dst := some 69, op := Op.load 47 (Operand.tmp 68), type := 47, pos := "ref.go:62", after := #[{ on := 2, ground := Ground.data }], guard := none }) (v := ?_) rfl (by kernel_rfl) (by kernel_rfl) (by kernel_rfl) (fun _ _ _ h => h) (Or.inl ⟨by rfl, ?_⟩) hHeld ?_
        rotate_left
        · rintro Wx ⟨hS0, hS1, hS2⟩
          clear hS2
          first | (go_simp; done) | (go_simp; with_reducible rfl)
        (try simp only [Act.put, List.setIfInBounds_toArray, List.set_cons_zero, List.set_cons_succ])
        refine wpAnyH_take (i := 4) (oi := { dst := some 70, op := Op.load 55 (Operand.tmp 8), type := 55, pos := "ref.go:62", after := #[], guard := none }) (v := .agg #[.int .i64 (1 - mi.s.ac), .int .i64 mi.s.gn]) rfl (by kernel_rfl) (by kernel_rfl) (by kernel_rfl) (fun _ _ _ h => h) (Or.inl ⟨by rfl, fun Wx hS => exec_load_row 55 (.tmp 8) rfl X13 rfl 55 #[.int .i64 (1 - mi.s.ac), .int .i64 mi.s.gn] (0, 0) _ hS.2.2 Tryz.underlying55 rfl i2c⟩) hHeld ?_
        (try simp only [Act.put, List.setIfInBounds_toArray, List.set_cons_zero, List.set_cons_succ])
        refine wpAnyH_take (i := 5) (oi := { dst := some 71, op := Op.move (Operand.tmp 0), type := 36, pos := "ref.go:62", after := #[], guard := none }) (v := ?_) rfl (by kernel_rfl) (by kernel_rfl) (by kernel_rfl) (fun _ _ _ h => h) (Or.inl ⟨by rfl, ?_⟩) hHeld ?_
        rotate_left
        · rintro Wx ⟨hS0, hS1, hS2⟩
          clear hS2
          first | (go_simp; done) | (go_simp; with_reducible rfl)
        (try simp only [Act.put, List.setIfInBounds_toArray, List.set_cons_zero, List.set_cons_succ])
        refine wpAnyH_take (i := 6) (oi := { dst := some 72, op := Op.nilCheck (Operand.tmp 71), type := 0, pos := "ref.go:62", after := #[{ on := 5, ground := Ground.data }], guard := none }) (v := ?_) rfl (by kernel_rfl) (by kernel_rfl) (by kernel_rfl) (fun _ _ _ h => h) (Or.inl ⟨by rfl, ?_⟩) hHeld ?_
        rotate_left
        · rintro Wx ⟨hS0, hS1, hS2⟩
          clear hS2
          first | (go_simp; done) | (go_simp; with_reducible rfl)
        (try simp only [Act.put, List.setIfInBounds_toArray, List.set_cons_zero, List.set_cons_succ])
        refine wpAnyH_take (i := 7) (oi := { dst := some 73, op := Op.fieldAddr 49 (Operand.tmp 72) 3, type := 0, pos := "ref.go:62", after := #[{ on := 6, ground := Ground.data }], guard := none }) (v := ?_) rfl (by kernel_rfl) (by kernel_rfl) (by kernel_rfl) (fun _ _ _ h => h) (Or.inl ⟨by rfl, ?_⟩) hHeld ?_
        rotate_left
        · rintro Wx ⟨hS0, hS1, hS2⟩
          clear hS2
          first | (go_simp; done) | (go_simp; with_reducible rfl)
        (try simp only [Act.put, List.setIfInBounds_toArray, List.set_cons_zero, List.set_cons_succ])
        refine wpAnyH_take (i := 8) (oi := { dst := some 74, op := Op.load 3 (Operand.tmp 73), type := 3, pos := "ref.go:62", after := #[{ on := 7, ground := Ground.data }], guard := none }) (v := ?_) rfl (by kernel_rfl) (by kernel_rfl) (by kernel_rfl) (fun _ _ _ h => h) (Or.inl ⟨by rfl, ?_⟩) hHeld ?_
        rotate_left
        · rintro Wx ⟨hS0, hS1, hS2⟩
          clear hS2
          first | (go_simp; done) | (go_simp; with_reducible rfl)
        (try simp only [Act.put, List.setIfInBounds_toArray, List.set_cons_zero, List.set_cons_succ])
        refine wpAnyH_ready (rs := [9]) (by kernel_rfl) (by simp) ?_
        refine AllReadyH.cons (o := { dst := some 75, op := Op.call { callee := Callee.value (Operand.func 36), args := #[Operand.tmp 69, Operand.tmp 70, Operand.tmp 74], argTypes := #[47, 55, 3] }, type := 91, pos := "ref.go:62", after := #[{ on := 3, ground := Ground.data }, { on := 4, ground := Ground.data }, { on := 8, ground := Ground.data }], guard := none }) rfl (fun K hK => ?_) AllReadyH.nil
        go_simp
        refine (HSET.out _ _ HE0.out).mono ?_
        rintro e x15 ⟨rfl, h⟩
        have HX15 := Lib.hid h
        clear h
        refine hK.out _ _ ?_ (fun hHeld => ?_)
        · exact ⟨(HX15.out.drow.cell 13).trans rfl, (HX15.out.drow.cell 14).trans rfl, HX15.out.row1⟩
        clear hK K
        (try simp only [Act.put, List.setIfInBounds_toArray, List.set_cons_zero, List.set_cons_succ])
        refine wpAnyH_take (i := 10) (oi := { dst := some 65, op := Op.move (Operand.tmp 75), type := 91, pos := "ref.go:62", after := #[{ on := 9, ground := Ground.data }], guard := none }) (v := ?_) rfl (by kernel_rfl) (by kernel_rfl) (by kernel_rfl) (fun _ _ _ h => h) (Or.inl ⟨by rfl, ?_⟩) hHeld ?_
        rotate_left
        · rintro Wx ⟨hS0, hS1, hS2⟩
          clear hS2
          first | (go_simp; done) | (go_simp; with_reducible rfl)
        (try simp only [Act.put, List.setIfInBounds_toArray, List.set_cons_zero, List.set_cons_succ])
        refine wpAnyH_take (i := 11) (oi := { dst := some 76, op := Op.extract (Operand.tmp 65) 0, type := 3, pos := "ref.go:62", after := #[{ on := 10, ground := Ground.data }], guard := none }) (v := ?_) rfl (by kernel_rfl) (by kernel_rfl) (by kernel_rfl) (fun _ _ _ h => h) (Or.inl ⟨by rfl, ?_⟩) hHeld ?_
        rotate_left
        · rintro Wx ⟨hS0, hS1, hS2⟩
          clear hS2
          first | (go_simp; done) | (go_simp; with_reducible rfl)
        (try simp only [Act.put, List.setIfInBounds_toArray, List.set_cons_zero, List.set_cons_succ])
        refine wpAnyH_take (i := 12) (oi := { dst := some 77, op := Op.extract (Operand.tmp 65) 1, type := 3, pos := "ref.go:62", after := #[{ on := 10, ground := Ground.data }, { on := 13, ground := Ground.gcOnly Departure.lateStores }], guard := none }) (v := ?_) rfl (by kernel_rfl) (by kernel_rfl) (by kernel_rfl) (fun _ _ _ h => h) (Or.inl ⟨by rfl, ?_⟩) hHeld ?_
        rotate_left
        · rintro Wx ⟨hS0, hS1, hS2⟩
          clear hS2
          first | (go_simp; done) | (go_simp; with_reducible rfl)
        (try simp only [Act.put, List.setIfInBounds_toArray, List.set_cons_zero, List.set_cons_succ])
        refine wpAnyH_take (i := 13) (oi := { dst := some 9, op := Op.assign (Operand.tmp 76), type := 3, pos := "ref.go:62", after := #[{ on := 11, ground := Ground.data }, { on := 9, ground := Ground.chain }, { on := 0, ground := Ground.phase }, { on := 1, ground := Ground.phase }, { on := 2, ground := Ground.phase }, { on := 3, ground := Ground.phase }, { on := 4, ground := Ground.phase }, { on := 5, ground := Ground.phase }, { on := 6, ground := Ground.phase }, { on := 7, ground := Ground.phase }, { on := 8, ground := Ground.phase }, { on := 9, ground := Ground.phase }, { on := 10, ground := Ground.phase }, { on := 11, ground := Ground.phase }, { on := 12, ground := Ground.textOnly Departure.lateStores }], guard := none }) (v := ?_) rfl (by kernel_rfl) (by kernel_rfl) (by kernel_rfl) (fun _ _ _ h => h) (Or.inl ⟨by rfl, ?_⟩) hHeld ?_
        rotate_left
        · rintro Wx ⟨hS0, hS1, hS2⟩
          clear hS2
          first | (go_simp; done) | (go_simp; with_reducible rfl)
        (try simp only [Act.put, List.setIfInBounds_toArray, List.set_cons_zero, List.set_cons_succ])
        refine wpAnyH_take (i := 14) (oi := { dst := some 10, op := Op.assign (Operand.tmp 77), type := 3, pos := "ref.go:62", after := #[{ on := 12, ground := Ground.data }, { on := 13, ground := Ground.chain }, { on := 0, ground := Ground.phase }, { on := 1, ground := Ground.phase }, { on := 2, ground := Ground.phase }, { on := 3, ground := Ground.phase }, { on := 4, ground := Ground.phase }, { on := 5, ground := Ground.phase }, { on := 6, ground := Ground.phase }, { on := 7, ground := Ground.phase }, { on := 8, ground := Ground.phase }, { on := 9, ground := Ground.phase }, { on := 10, ground := Ground.phase }, { on := 11, ground := Ground.phase }, { on := 12, ground := Ground.phase }, { on := 13, ground := Ground.phase }], guard := none }) (v := ?_) rfl (by kernel_rfl) (by kernel_rfl) (by kernel_rfl) (fun _ _ _ h => h) (Or.inl ⟨by rfl, ?_⟩) hHeld ?_
        rotate_left
        · rintro Wx ⟨hS0, hS1, hS2⟩
          clear hS2
          first | (go_simp; done) | (go_simp; with_reducible rfl)
        (try simp only [Act.put, List.setIfInBounds_toArray, List.set_cons_zero, List.set_cons_succ])
        refine wpAnyH_done (by kernel_rfl) ?_ _
        by_cases ht : tm = 0
        case neg =>
          have t1 : (tm == 0) = false := beq_eq_false_iff_ne.2 ht
          have HNE : Hid (¬ toldM mi = 0) := Lib.hid (by rw [← HTM.out]; exact ht)
          clear ht
          go_wp2
          go_ret
          exact ⟨by rw [HSM.out, HRT.out]; unfold routeM; rw [if_neg HNE.out, HTM.out]; rfl, by rw [HSM.out, HRT.out]; unfold routeM; rw [if_neg HNE.out]; exact HX15.out.nil.fin⟩
        subst ht
        go_upto_region 13 with (fail)
        have HD1 := Lib.hid (HX15.out.drew (dcx_keeps fb rb))
        clear HX15
        refine wp_region_held_drew (S := fun Wx => Wx.cell? ⟨b, 9, none⟩ = some (.int .i64 mi.s.gn) ∧ Wx.cell? ⟨b, 15, none⟩ = some (.int .i64 mi.tick)) (by kernel_rfl) ⟨(HD1.out.drow.cell 9).trans rfl, (HD1.out.drow.cell 15).trans rfl⟩ (fun hHeld => ?_)
        refine wpAnyH_take (i := 0) (oi := { dst := some 80, op := Op.move (Operand.tmp 0), type := 36, pos := "ref.go:64", after := #[], guard := none }) (v := ?_) rfl (by kernel_rfl) (by kernel_rfl) (by kernel_rfl) (fun _ _ _ h => h) (Or.inl ⟨by rfl, ?_⟩) hHeld ?_
        rotate_left
        · rintro Wx ⟨hS0, hS1⟩
          first | (go_simp; done) | (go_simp; with_reducible rfl)
        (try simp only [Act.put, List.setIfInBounds_toArray, List.set_cons_zero, List.set_cons_succ])
        refine wpAnyH_take (i := 1) (oi := { dst := some 81, op := Op.move (Operand.tmp 0), type := 36, pos := "ref.go:64", after := #[], guard := none }) (v := ?_) rfl (by kernel_rfl) (by kernel_rfl) (by kernel_rfl) (fun _ _ _ h => h) (Or.inl ⟨by rfl, ?_⟩) hHeld ?_
        rotate_left
        · rintro Wx ⟨hS0, hS1⟩
          first | (go_simp; done) | (go_simp; with_reducible rfl)
        (try simp only [Act.put, List.setIfInBounds_toArray, List.set_cons_zero, List.set_cons_succ])
        refine wpAnyH_take (i := 2) (oi := { dst := some 82, op := Op.nilCheck (Operand.tmp 81), type := 0, pos := "ref.go:64", after := #[{ on := 1, ground := Ground.data }], guard := none }) (v := ?_) rfl (by kernel_rfl) (by kernel_rfl) (by kernel_rfl) (fun _ _ _ h => h) (Or.inl ⟨by rfl, ?_⟩) hHeld ?_
        rotate_left
        · rintro Wx ⟨hS0, hS1⟩
          first | (go_simp; done) | (go_simp; with_reducible rfl)
        (try simp only [Act.put, List.setIfInBounds_toArray, List.set_cons_zero, List.set_cons_succ])
        refine wpAnyH_take (i := 3) (oi := { dst := some 83, op := Op.fieldAddr 49 (Operand.tmp 82) 0, type := 0, pos := "ref.go:64", after := #[{ on := 2, ground := Ground.data }], guard := none }) (v := ?_) rfl (by kernel_rfl) (by kernel_rfl) (by kernel_rfl) (fun _ _ _ h => h) (Or.inl ⟨by rfl, ?_⟩) hHeld ?_
        rotate_left
        · rintro Wx ⟨hS0, hS1⟩
          first | (go_simp; done) | (go_simp; with_reducible rfl)
        (try simp only [Act.put, List.setIfInBounds_toArray, List.set_cons_zero, List.set_cons_succ])
        refine wpAnyH_take (i := 4) (oi := { dst := some 84, op := Op.fieldAddr 33 (Operand.tmp 83) 6, type := 0, pos := "ref.go:64", after := #[{ on := 3, ground := Ground.data }], guard := none }) (v := ?_) rfl (by kernel_rfl) (by kernel_rfl) (by kernel_rfl) (fun _ _ _ h => h) (Or.inl ⟨by rfl, ?_⟩) hHeld ?_
        rotate_left
        · rintro Wx ⟨hS0, hS1⟩
          first | (go_simp; done) | (go_simp; with_reducible rfl)
        (try simp only [Act.put, List.setIfInBounds_toArray, List.set_cons_zero, List.set_cons_succ])
        refine wpAnyH_take (i := 5) (oi := { dst := some 85, op := Op.load 3 (Operand.tmp 84), type := 3, pos := "ref.go:64", after := #[{ on := 4, ground := Ground.data }], guard := none }) (v := ?_) rfl (by kernel_rfl) (by kernel_rfl) (by kernel_rfl) (fun _ _ _ h => h) (Or.inl ⟨by rfl, ?_⟩) hHeld ?_
        rotate_left
        · rintro Wx ⟨hS0, hS1⟩
          first | (go_simp; done) | (go_simp; with_reducible rfl)
        (try simp only [Act.put, List.setIfInBounds_toArray, List.set_cons_zero, List.set_cons_succ])
        refine wpAnyH_take (i := 6) (oi := { dst := some 86, op := Op.move (Operand.tmp 0), type := 36, pos := "ref.go:64", after := #[], guard := none }) (v := ?_) rfl (by kernel_rfl) (by kernel_rfl) (by kernel_rfl) (fun _ _ _ h => h) (Or.inl ⟨by rfl, ?_⟩) hHeld ?_
        rotate_left
        · rintro Wx ⟨hS0, hS1⟩
          first | (go_simp; done) | (go_simp; with_reducible rfl)
        (try simp only [Act.put, List.setIfInBounds_toArray, List.set_cons_zero, List.set_cons_succ])
        refine wpAnyH_take (i := 7) (oi := { dst := some 87, op := Op.nilCheck (Operand.tmp 86), type := 0, pos := "ref.go:64", after := #[{ on := 6, ground := Ground.data }], guard := none }) (v := ?_) rfl (by kernel_rfl) (by kernel_rfl) (by kernel_rfl) (fun _ _ _ h => h) (Or.inl ⟨by rfl, ?_⟩) hHeld ?_
        rotate_left
        · rintro Wx ⟨hS0, hS1⟩
          first | (go_simp; done) | (go_simp; with_reducible rfl)
        (try simp only [Act.put, List.setIfInBounds_toArray, List.set_cons_zero, List.set_cons_succ])
        refine wpAnyH_take (i := 8) (oi := { dst := some 88, op := Op.fieldAddr 49 (Operand.tmp 87) 4, type := 0, pos := "ref.go:64", after := #[{ on := 7, ground := Ground.data }], guard := none }) (v := ?_) rfl (by kernel_rfl) (by kernel_rfl) (by kernel_rfl) (fun _ _ _ h => h) (Or.inl ⟨by rfl, ?_⟩) hHeld ?_
        rotate_left
        · rintro Wx ⟨hS0, hS1⟩
          first | (go_simp; done) | (go_simp; with_reducible rfl)
        (try simp only [Act.put, List.setIfInBounds_toArray, List.set_cons_zero, List.set_cons_succ])
        refine wpAnyH_take (i := 9) (oi := { dst := some 89, op := Op.load 3 (Operand.tmp 88), type := 3, pos := "ref.go:64", after := #[{ on := 8, ground := Ground.data }], guard := none }) (v := ?_) rfl (by kernel_rfl) (by kernel_rfl) (by kernel_rfl) (fun _ _ _ h => h) (Or.inl ⟨by rfl, ?_⟩) hHeld ?_
        rotate_left
        · rintro Wx ⟨hS0, hS1⟩
          first | (go_simp; done) | (go_simp; with_reducible rfl)
        (try simp only [Act.put, List.setIfInBounds_toArray, List.set_cons_zero, List.set_cons_succ])
        refine wpAnyH_take (i := 10) (oi := { dst := some 90, op := Op.build 85 #[(0, Operand.const (Value.int IntKind.i64 8)), (4, Operand.tmp 85), (5, Operand.tmp 89)], type := 85, pos := "ref.go:64", after := #[{ on := 5, ground := Ground.data }, { on := 9, ground := Ground.data }], guard := none }) (v := ?_) rfl (by kernel_rfl) (by kernel_rfl) (by kernel_rfl) (fun _ _ _ h => h) (Or.inl ⟨by rfl, ?_⟩) hHeld ?_
        rotate_left
        · rintro Wx ⟨hS0, hS1⟩
          first | (go_simp; done) | (go_simp; with_reducible rfl)
        (try simp only [Act.put, List.setIfInBounds_toArray, List.set_cons_zero, List.set_cons_succ])
        refine wpAnyH_ready (rs := [11]) (by kernel_rfl) (by simp) ?_
        refine AllReadyH.cons (o := { dst := some 91, op := Op.call { callee := Callee.value (Operand.func 31), args := #[Operand.tmp 80, Operand.tmp 90], argTypes := #[36, 85] }, type := 4, pos := "ref.go:64", after := #[{ on := 0, ground := Ground.data }, { on := 10, ground := Ground.data }], guard := none }) rfl (fun K hK => ?_) AllReadyH.nil
        go_simp
        refine (HD1.out.turn (fun _ h => dput_any (rec8 mi.s.gn mi.tick) h HFR.out.set.right HOK8.out)).mono ?_
        rintro e x16 ⟨rfl, h⟩
        have HX16 := Lib.hid h
        clear h
        refine hK.out _ _ ?_ (fun hHeld => ?_)
        · exact ⟨(HX16.out.drow.cell 9).trans (by show some (Value.int .i64 (putM (callM mi) (rec8 mi.s.gn mi.tick)).1.s.gn) = _; rw [HSG.out]), (HX16.out.drow.cell 15).trans rfl⟩
        clear hK K
        (try simp only [Act.put, List.setIfInBounds_toArray, List.set_cons_zero, List.set_cons_succ])
        refine wpAnyH_done (by kernel_rfl) ?_ _
        go_wp2
        go_ret
        exact ⟨by rw [HSM.out, HRT.out]; unfold routeM; rw [if_pos HTM.out.symm]; rfl, by rw [HSM.out, HRT.out]; unfold routeM; rw [if_pos HTM.out.symm]; exact HX16.out.nil.fin⟩
      · have HP2 := Lib.hid (HPUT.out (HOK.out (by decide) (by decide)))
        go_wp2_with (first | (refine wpList_load_any (by rfl) 85 (.tmp 7) rfl Y rfl 85 rs (0, 0) _ HC1.out.row1 Tryz.underlying85 rfl (by rw [HZ_rs.out]; exact i19) ?_))
        refine (HP2.out _ _ HC1.out).mono ?_
        rintro e y1 ⟨rfl, h⟩
        have HY1 := Lib.hid h
        clear h HC1 HPUT HP2
        go_wp2
        go_ret
        exact ⟨by rw [HSM.out, HEQ.out]; rfl, by rw [HSM.out, HEQ.out]; exact HY1.out.nil.fin⟩
end Go.Proofs.YtchaeidmjoelnaaGreat
namespace Go.Proofs.YtchaeidmjoelnaaGreat
open Go.RowKit

def noD : Nat → Prop := fun _ => False
/-- The parts of a model just made: its fleet, its fuse, its router; X: a row of the function's own. -/
structure MadeD (w W : World) (X fb g rb b : Nat) (OF : Nat → Prop) : Prop where
  fl : FlM OF W fb [] []
  of : ∀ j, OF j → w.heap.size ≤ j ∧ j ≠ X ∧ j ≠ g ∧ j ≠ rb ∧ j ≠ b
  fz : Fz W g 78 ⟨false, 0, false, 0⟩
  ro : RoM W rb g (.slice none 0 0) ⟨0, 0, [], 0⟩
  low : Below w.heap.size w W
  ge : w.heap.size ≤ X ∧ w.heap.size ≤ g ∧ w.heap.size ≤ rb ∧ w.heap.size ≤ b
  ne : X ≠ g ∧ X ≠ rb ∧ X ≠ b ∧ b ≠ g ∧ b ≠ rb
theorem MadeD.hold {w W : World} {X fb g rb b : Nat} {OF : Nat → Prop} {cs : Array Value} {m : Md} (h : MadeD w W X fb g rb b OF) (hx : Rw W X cs 33) (hr : Rw W b (dcC m fb rb) 49) (h1 : m.k = []) (h2 : m.l = []) (h3 : m.ro = ⟨0, 0, [], 0⟩) (h4 : m.fu = ⟨false, 0, false, 0⟩) : Hold (DcX fb rb) noD w W [(X, cs, 33)] b m := by
  obtain ⟨ne1, ne2, ne3, ne4, ne5⟩ := h.ne
  obtain ⟨ge1, ge2, ge3, ge4⟩ := h.ge
  have hmem : ∀ r ∈ ([(X, cs, 33)] : List Row), r = (X, cs, 33) := fun r hr => by simpa using hr
  refine ⟨⟨fun j => OF j ∨ j = g ∨ j = rb ∨ j = b, ⟨OF, fun j => j = g ∨ j = rb, ⟨hr, by rw [h1, h2]; exact h.fl, ⟨g, .slice none 0 0, by rw [h3]; exact h.ro, by rw [h4]; exact h.fz, .inr rfl, .inl rfl, fun k hk => by simp [Value.ownBlock] at hk, fun j hj => ?_⟩, fun ho => (h.of b ho).2.2.2.2 rfl, fun ho => ?_, fun j hj ho => ?_, .inr (.inr (.inr rfl)), fun j hj => .inl hj, fun j hj => ?_, fun j hj => ?_⟩⟩, fun j hj => .inr ?_, fun r hr ho => ?_⟩, ⟨h.low.os, h.low.tape, h.low.output, h.low.size, fun j hj _ => h.low.block j hj⟩, fun r hr => ?_, fun r hr => ?_, ?_⟩
  · rcases hj with rfl | rfl
    · exact h.fz.lt
    · exact lt_of_block h.ro.row
  · rcases ho with e | e
    · exact ne4 e
    · exact ne5 e
  · have := h.of j hj
    rcases ho with e | e
    · exact this.2.2.1 e
    · exact this.2.2.2.1 e
  · rcases hj with e | e
    · exact .inr (.inl e)
    · exact .inr (.inr (.inl e))
  · rcases hj with e | rfl | rfl | rfl
    · exact flm_keeps.lt h.fl j e
    · exact h.fz.lt
    · exact lt_of_block h.ro.row
    · exact hr.lt
  · rcases hj with e | rfl | rfl | rfl
    · exact (h.of j e).1
    · exact ge2
    · exact ge3
    · exact ge4
  · rw [hmem r hr] at ho
    rcases ho with e | e | e | e
    · exact (h.of X e).2.1 rfl
    · exact ne1 e
    · exact ne2 e
    · exact ne3 e
  · rw [hmem r hr]; exact hx
  · rw [hmem r hr]; exact ge1
  · simp
section
set_option maxRecDepth 100000 in
set_option maxHeartbeats 8000000 in
theorem dnew_c (ph ac r0 r1 w0 w1 dl gn sw fl tries : Int) (p0 p1 : Bool) (w : World) : Calls Tryz.prog 9 #[.agg (stC ⟨ph, ac, r0, r1, w0, w1, p0, p1, dl, gn, sw, fl⟩), .int .i64 tries] w fun e w' => ∃ b, e = .returned (ptr b) ∧ NewO DcP w w' b (newM ⟨ph, ac, r0, r1, w0, w1, p0, p1, dl, gn, sw, fl⟩ tries) := by
  obtain ⟨mz, hmz⟩ : ∃ m : Md, m = ⟨⟨ph, ac, r0, r1, w0, w1, p0, p1, dl, gn, sw, fl⟩, [], [], ⟨0, 0, [], 0⟩, ⟨false, 0, false, 0⟩, tries, 0⟩ := ⟨_, rfl⟩
  have HMZ := Lib.hid hmz
  clear hmz
  go_enter Tryz.func9, Tryz.ntmps9
  go_upto_region 1 with (fail)
  obtain ⟨X, hX⟩ : ∃ X, X = w.heap.size := ⟨_, rfl⟩
  rw [← hX]
  refine name_w (fun V => Rw V X (stC ⟨ph, ac, r0, r1, w0, w1, p0, p1, dl, gn, sw, fl⟩) 33 ∧ Below w.heap.size w V ∧ w.heap.size ≤ X) (by rw [hX]; exact ⟨Rw.new _ _ _, (Below.refl _ _).alloc (Nat.le_refl _) _, Nat.le_refl _⟩) ?_
  clear hX
  rintro u2 ⟨h1, h2, h3⟩
  have HD0 : Hid (Rw u2.drew X (stC ⟨ph, ac, r0, r1, w0, w1, p0, p1, dl, gn, sw, fl⟩) 33) := Lib.hid h1.drew
  have HBB : Hid (Below w.heap.size w u2.drew) := Lib.hid (below_drew h2)
  have HXG := Lib.hid h3
  clear h1 h2 h3
  refine wp_region_held_drew (S := fun Wx => Rw Wx X (stC ⟨ph, ac, r0, r1, w0, w1, p0, p1, dl, gn, sw, fl⟩) 33) (by kernel_rfl) (HD0.out) (fun hHeld => ?_)
  refine wpAnyH_take (i := 0) (oi := { dst := some 6, op := Op.load 33 (Operand.tmp 2), type := 33, pos := "ref.go:27", after := #[], guard := none }) (v := .agg #[.int .i64 ph, .int .i64 ac, .int .i64 r0, .int .i64 r1, .int .i64 w0, .int .i64 w1, .bool p0, .bool p1, .int .i64 dl, .int .i64 gn, .int .i64 sw, .int .i64 fl]) rfl (by kernel_rfl) (by kernel_rfl) (by kernel_rfl) (fun _ _ _ h => h) (Or.inl ⟨by rfl, fun Wx hS => exec_load_row 33 (.tmp 2) rfl X rfl 33 (stC ⟨ph, ac, r0, r1, w0, w1, p0, p1, dl, gn, sw, fl⟩) (0, 0) _ hS Tryz.underlying33 rfl i12⟩) hHeld ?_
  (try simp only [Act.put, List.setIfInBounds_toArray, List.set_cons_zero, List.set_cons_succ])
  refine wpAnyH_take (i := 2) (oi := { dst := some 8, op := Op.move (Operand.tmp 1), type := 3, pos := "ref.go:27", after := #[], guard := none }) (v := ?_) rfl (by kernel_rfl) (by kernel_rfl) (by kernel_rfl) (fun _ _ _ h => h) (Or.inl ⟨by rfl, ?_⟩) hHeld ?_
  rotate_left
  · intro Wx hS0
    clear hS0
    first | (go_simp; done) | (go_simp; with_reducible rfl)
  (try simp only [Act.put, List.setIfInBounds_toArray, List.set_cons_zero, List.set_cons_succ])
  refine wpAnyH_ready (rs := [1]) (by kernel_rfl) (by simp) ?_
  refine AllReadyH.cons (o := { dst := some 7, op := Op.call { callee := Callee.value (Operand.func 27), args := #[], argTypes := #[] }, type := 46, pos := "ref.go:27", after := #[], guard := none }) rfl (fun K hK => ?_) AllReadyH.nil
  go_simp
  refine (mnew_any _).mono ?_
  rintro e x1 ⟨fb, rfl, OF, hf, ho, hb⟩
  have HX1 := Lib.hid (HD0.out.under hb HD0.out.lt)
  have HB1 := Lib.hid (HBB.out.trans (hb.mono HBB.out.size))
  have HF1 : Hid (FlM OF x1 fb [] []) := Lib.hid hf
  have HO1 : Hid (∀ j, OF j → w.heap.size ≤ j ∧ j < x1.heap.size ∧ j ≠ X) := Lib.hid (fun j hj => ⟨Nat.le_trans HBB.out.size (ho j hj), flm_keeps.lt hf j hj, fun e => by have h1 := ho j hj; have h2 := HD0.out.lt; omega⟩)
  clear hf ho hb HD0 HBB
  refine hK.out _ _ ?_ (fun hHeld => ?_)
  · exact HX1.out
  clear hK K
  (try simp only [Act.put, List.setIfInBounds_toArray, List.set_cons_zero, List.set_cons_succ])
  refine wpAnyH_take (i := 3) (oi := { dst := some 9, op := Op.build 49 #[(0, Operand.tmp 6), (1, Operand.tmp 7), (3, Operand.tmp 8)], type := 49, pos := "ref.go:27", after := #[{ on := 0, ground := Ground.data }, { on := 1, ground := Ground.data }, { on := 2, ground := Ground.data }], guard := none }) (v := ?_) rfl (by kernel_rfl) (by kernel_rfl) (by kernel_rfl) (fun _ _ _ h => h) (Or.inl ⟨by rfl, ?_⟩) hHeld ?_
  rotate_left
  · intro Wx hS0
    clear hS0
    first | (go_simp; done) | (go_simp; with_reducible rfl)
  (try simp only [Act.put, List.setIfInBounds_toArray, List.set_cons_zero, List.set_cons_succ])
  refine wpAnyH_ready (rs := [4]) (by kernel_rfl) (by simp) ?_
  refine AllReadyH.cons (o := { dst := some 10, op := Op.box 49 (Operand.tmp 9), type := 36, pos := "ref.go:27", after := #[{ on := 3, ground := Ground.data }], guard := none }) rfl (fun K hK => ?_) AllReadyH.nil
  go_simp
  obtain ⟨b, hbe⟩ : ∃ x, x = x1.heap.size := ⟨_, rfl⟩
  rw [← hbe]
  have hal : Below x1.heap.size x1 (x1.alloc (.cells #[.int .i64 ph, .int .i64 ac, .int .i64 r0, .int .i64 r1, .int .i64 w0, .int .i64 w1, .bool p0, .bool p1, .int .i64 dl, .int .i64 gn, .int .i64 sw, .int .i64 fl, ptr fb, .pointer none, .int .i64 tries, .int .i64 0] 49)) := (Below.refl _ _).alloc (Nat.le_refl _) _
  have HX2 := Lib.hid (HX1.out.under hal HX1.out.lt)
  have HB2 := Lib.hid (HB1.out.trans (hal.mono HB1.out.size))
  have HF2 : Hid (FlM OF (x1.alloc (.cells #[.int .i64 ph, .int .i64 ac, .int .i64 r0, .int .i64 r1, .int .i64 w0, .int .i64 w1, .bool p0, .bool p1, .int .i64 dl, .int .i64 gn, .int .i64 sw, .int .i64 fl, ptr fb, .pointer none, .int .i64 tries, .int .i64 0] 49)) fb [] []) := Lib.hid (flm_keeps.keep HF1.out (fun j hj => hal.block j (HO1.out j hj).2.1))
  have HM2 : Hid (Rw (x1.alloc (.cells #[.int .i64 ph, .int .i64 ac, .int .i64 r0, .int .i64 r1, .int .i64 w0, .int .i64 w1, .bool p0, .bool p1, .int .i64 dl, .int .i64 gn, .int .i64 sw, .int .i64 fl, ptr fb, .pointer none, .int .i64 tries, .int .i64 0] 49)) b #[.int .i64 ph, .int .i64 ac, .int .i64 r0, .int .i64 r1, .int .i64 w0, .int .i64 w1, .bool p0, .bool p1, .int .i64 dl, .int .i64 gn, .int .i64 sw, .int .i64 fl, ptr fb, .pointer none, .int .i64 tries, .int .i64 0] 49) := Lib.hid (by rw [hbe]; exact Rw.new _ _ _)
  have HO2 : Hid ((∀ j, OF j → w.heap.size ≤ j ∧ j ≠ X ∧ j < b) ∧ w.heap.size ≤ b ∧ X < b) := Lib.hid ⟨fun j hj => ⟨(HO1.out j hj).1, (HO1.out j hj).2.2, by have := (HO1.out j hj).2.1; omega⟩, by have := HB1.out.size; omega, by have := HX1.out.lt; omega⟩
  clear hal hbe HX1 HB1 HF1 HO1
  refine hK.out _ _ ?_ (fun hHeld => ?_)
  · exact HX2.out
  clear hK K
  (try simp only [Act.put, List.setIfInBounds_toArray, List.set_cons_zero, List.set_cons_succ])
  refine wpAnyH_take (i := 5) (oi := { dst := some 5, op := Op.assign (Operand.tmp 10), type := 36, pos := "ref.go:27", after := #[{ on := 4, ground := Ground.data }, { on := 1, ground := Ground.chain }, { on := 0, ground := Ground.phase }, { on := 1, ground := Ground.phase }, { on := 2, ground := Ground.phase }, { on := 3, ground := Ground.phase }, { on := 4, ground := Ground.phase }], guard := none }) (v := ?_) rfl (by kernel_rfl) (by kernel_rfl) (by kernel_rfl) (fun _ _ _ h => h) (Or.inl ⟨by rfl, ?_⟩) hHeld ?_
  rotate_left
  · intro Wx hS0
    clear hS0
    first | (go_simp; done) | (go_simp; with_reducible rfl)
  (try simp only [Act.put, List.setIfInBounds_toArray, List.set_cons_zero, List.set_cons_succ])
  refine wpAnyH_done (by kernel_rfl) ?_ _
  go_upto_region 2 with (fail)
  refine name_w (fun V => Rw V X (stC ⟨ph, ac, r0, r1, w0, w1, p0, p1, dl, gn, sw, fl⟩) 33 ∧ Below w.heap.size w V ∧ FlM OF V fb [] [] ∧ Rw V b #[.int .i64 ph, .int .i64 ac, .int .i64 r0, .int .i64 r1, .int .i64 w0, .int .i64 w1, .bool p0, .bool p1, .int .i64 dl, .int .i64 gn, .int .i64 sw, .int .i64 fl, ptr fb, .pointer none, .int .i64 tries, .int .i64 0] 49) ⟨HX2.out, HB2.out, HF2.out, HM2.out⟩ ?_
  clear HX2 HB2 HF2 HM2
  rintro V1 ⟨h1, h2, h3, h4⟩
  obtain ⟨G, hG⟩ : ∃ x, x = V1.heap.size := ⟨_, rfl⟩
  obtain ⟨RB, hRB⟩ : ∃ x, x = G + 1 := ⟨_, rfl⟩
  have hlt := h4.lt
  have HXV := Lib.hid h1
  have HBV := Lib.hid h2
  have HFV := Lib.hid h3
  have HMV := Lib.hid h4
  have HGE := Lib.hid hG
  have HRE := Lib.hid hRB
  obtain ⟨V3, hV3⟩ : ∃ x, x = (V1.alloc (.cells #[.bool false, .int .i64 0, .bool false, .int .i64 0] 78)).alloc (.cells #[.int .i64 0, .int .i64 0, .slice none 0 0, .int .i64 0, ptr G] 80) := ⟨_, rfl⟩
  have HV3 := Lib.hid hV3
  have hb3 : Below V1.heap.size V1 V3 := by rw [hV3]; exact ((Below.refl _ _).alloc (Nat.le_refl _) _).alloc (by simp) _
  have HB3 := Lib.hid hb3
  have c13 : V3.cell? ⟨b, 13, none⟩ = some (.pointer none) := (hb3.cell (p := ⟨b, 13, none⟩) hlt).trans (h4.cell 13)
  have f13 : V3.frozen? ⟨b, 13, none⟩ = false := (h4.under hb3 hlt).fr 13
  rw [hG] at hV3
  have hw : (V1.alloc (.cells #[.bool false, .int .i64 0, .bool false, .int .i64 0] 78)).alloc (.cells #[.int .i64 0, .int .i64 0, .slice none 0 0, .int .i64 0, ptr V1.heap.size] 80) = V3 := hV3.symm
  clear h1 h2 h3 h4 hG hRB hlt hV3 hb3
  go_upto_region 3 with (fail)
  refine name_w (fun V => Hold (DcX fb RB) noD w V [(X, stC ⟨ph, ac, r0, r1, w0, w1, p0, p1, dl, gn, sw, fl⟩, 33)] b mz) ?_ ?_
  · have hs : V3.heap.size = V1.heap.size + 2 := by rw [HV3.out]; simp
    have hGV : Rw V3 G #[.bool false, .int .i64 0, .bool false, .int .i64 0] 78 := by rw [HV3.out, HGE.out]; exact (Rw.new V1 #[.bool false, .int .i64 0, .bool false, .int .i64 0] 78).alloc _
    have hRV : Rw V3 RB #[.int .i64 0, .int .i64 0, .slice none 0 0, .int .i64 0, ptr G] 80 := by
      have h5 := Rw.new (V1.alloc (.cells #[.bool false, .int .i64 0, .bool false, .int .i64 0] 78)) #[.int .i64 0, .int .i64 0, .slice none 0 0, .int .i64 0, ptr G] 80
      rw [size_alloc, ← HGE.out, ← HRE.out] at h5
      rw [HV3.out]
      exact h5
    have hO := HO2.out
    have hML := HMV.out.lt
    have hXL := HXV.out.lt
    have eG := HGE.out
    have eR := HRE.out
    have hbl : ∀ k, k ≠ b → (V3.setCell ⟨b, 13, none⟩ (ptr RB)).heap[k]? = V3.heap[k]? := fun k hk => Below.heap_setCell V3 ⟨b, 13, none⟩ (ptr RB) k hk
    have hMB : Rw (V3.setCell ⟨b, 13, none⟩ (ptr RB)) b (dcC mz fb RB) 49 := by
      have h6 := (HMV.out.under HB3.out hML).cellO (i := 13) (ptr RB)
      rw [HMZ.out]
      exact h6
    have hM : MadeD w (V3.setCell ⟨b, 13, none⟩ (ptr RB)) X fb G RB b OF :=
      ⟨flm_keeps.keep HFV.out (fun j hj => (hbl j (by have := (hO.1 j hj).2.2; omega)).trans (HB3.out.block j (by have := (hO.1 j hj).2.2; omega))),
       fun j hj => ⟨(hO.1 j hj).1, (hO.1 j hj).2.1, by have := (hO.1 j hj).2.2; omega, by have := (hO.1 j hj).2.2; omega, by have := (hO.1 j hj).2.2; omega⟩,
       (hbl G (by omega)).trans hGV, ⟨(hbl RB (by omega)).trans hRV, World.ownsRow_nil _ _ _ _⟩,
       below_setCell (HBV.out.trans (HB3.out.mono HBV.out.size)) hO.2.1 _,
       ⟨HXG.out, by have := HBV.out.size; omega, by have := HBV.out.size; omega, hO.2.1⟩, ⟨by omega, by omega, by omega, by omega, by omega⟩⟩
    rw [show V1.heap.size + 1 = RB by omega]
    exact hM.hold ((hbl X (by omega)).trans (HXV.out.under HB3.out hXL)) hMB (by rw [HMZ.out]) (by rw [HMZ.out]) (by rw [HMZ.out]) (by rw [HMZ.out])
  clear c13 f13 hw HXV HBV HFV HMV HO2 HB3 HV3
  rintro V4 h
  have HD5 := Lib.hid (h.drew (dcx_keeps fb RB))
  clear h
  refine wp_region_held_drew (S := fun Wx => Wx.cell? ⟨b, 12, none⟩ = some (ptr fb) ∧ Wx.rangeAt X 4 (#[.int .i64 w0, .int .i64 w1] : Array Value).toList) (by kernel_rfl) ⟨(HD5.out.drow.cell 12).trans (by rw [HMZ.out]; rfl), HD5.out.row1.range _ (fun j v hv => by match j, hv with | 0, hv | 1, hv => exact hv | j + 2, hv => simp at hv)⟩ (fun hHeld => ?_)
  refine wpAnyH_take (i := 0) (oi := { dst := some 18, op := Op.move (Operand.tmp 5), type := 36, pos := "ref.go:29", after := #[], guard := none }) (v := ?_) rfl (by kernel_rfl) (by kernel_rfl) (by kernel_rfl) (fun _ _ _ h => h) (Or.inl ⟨by rfl, ?_⟩) hHeld ?_
  rotate_left
  · rintro Wx ⟨hS0, hS1⟩
    clear hS1
    first | (go_simp; done) | (go_simp; with_reducible rfl)
  (try simp only [Act.put, List.setIfInBounds_toArray, List.set_cons_zero, List.set_cons_succ])
  refine wpAnyH_take (i := 1) (oi := { dst := some 19, op := Op.nilCheck (Operand.tmp 18), type := 0, pos := "ref.go:29", after := #[{ on := 0, ground := Ground.data }], guard := none }) (v := ?_) rfl (by kernel_rfl) (by kernel_rfl) (by kernel_rfl) (fun _ _ _ h => h) (Or.inl ⟨by rfl, ?_⟩) hHeld ?_
  rotate_left
  · rintro Wx ⟨hS0, hS1⟩
    clear hS1
    first | (go_simp; done) | (go_simp; with_reducible rfl)
  (try simp only [Act.put, List.setIfInBounds_toArray, List.set_cons_zero, List.set_cons_succ])
  refine wpAnyH_take (i := 2) (oi := { dst := some 20, op := Op.fieldAddr 49 (Operand.tmp 19) 1, type := 0, pos := "ref.go:29", after := #[{ on := 1, ground := Ground.data }], guard := none }) (v := ?_) rfl (by kernel_rfl) (by kernel_rfl) (by kernel_rfl) (fun _ _ _ h => h) (Or.inl ⟨by rfl, ?_⟩) hHeld ?_
  rotate_left
  · rintro Wx ⟨hS0, hS1⟩
    clear hS1
    first | (go_simp; done) | (go_simp; with_reducible rfl)
  (try simp only [Act.put, List.setIfInBounds_toArray, List.set_cons_zero, List.set_cons_succ])
  refine wpAnyH_take (i := 3) (oi := { dst := some 21, op := Op.load 46 (Operand.tmp 20), type := 46, pos := "ref.go:29", after := #[{ on := 2, ground := Ground.data }], guard := none }) (v := ?_) rfl (by kernel_rfl) (by kernel_rfl) (by kernel_rfl) (fun _ _ _ h => h) (Or.inl ⟨by rfl, ?_⟩) hHeld ?_
  rotate_left
  · rintro Wx ⟨hS0, hS1⟩
    clear hS1
    first | (go_simp; done) | (go_simp; with_reducible rfl)
  (try simp only [Act.put, List.setIfInBounds_toArray, List.set_cons_zero, List.set_cons_succ])
  refine wpAnyH_take (i := 4) (oi := { dst := some 22, op := Op.fieldAddr 33 (Operand.tmp 2) 3, type := 0, pos := "ref.go:29", after := #[], guard := none }) (v := ?_) rfl (by kernel_rfl) (by kernel_rfl) (by kernel_rfl) (fun _ _ _ h => h) (Or.inl ⟨by rfl, ?_⟩) hHeld ?_
  rotate_left
  · rintro Wx ⟨hS0, hS1⟩
    clear hS1
    first | (go_simp; done) | (go_simp; with_reducible rfl)
  (try simp only [Act.put, List.setIfInBounds_toArray, List.set_cons_zero, List.set_cons_succ])
  refine wpAnyH_take (i := 5) (oi := { dst := some 23, op := Op.load 30 (Operand.tmp 22), type := 30, pos := "ref.go:29", after := #[{ on := 4, ground := Ground.data }], guard := none }) (v := .agg (#[.int .i64 w0, .int .i64 w1] : Array Value)) rfl (by kernel_rfl) (by kernel_rfl) (by kernel_rfl) (fun _ _ _ h => h) (Or.inl ⟨by rfl, fun Wx hS => exec_load_midD 30 (.tmp 22) rfl X 4 rfl (#[.int .i64 w0, .int .i64 w1] : Array Value) _ hS.2 Tryz.underlying30 rfl i2wD⟩) hHeld ?_
  (try simp only [Act.put, List.setIfInBounds_toArray, List.set_cons_zero, List.set_cons_succ])
  refine wpAnyH_ready (rs := [6]) (by kernel_rfl) (by simp) ?_
  refine AllReadyH.cons (o := { dst := some 24, op := Op.call { callee := Callee.value (Operand.func 28), args := #[Operand.tmp 21, Operand.tmp 23], argTypes := #[46, 30] }, type := 0, pos := "ref.go:29", after := #[{ on := 3, ground := Ground.data }, { on := 5, ground := Ground.data }], guard := none }) rfl (fun K hK => ?_) AllReadyH.nil
  go_simp
  refine (HD5.out.dfleet (fun _ ⟨_, _, _, _, h⟩ => mapply_any w0 w1 h)).mono ?_
  rintro e x5 ⟨rfl, h⟩
  have HX5 := Lib.hid h
  clear h
  refine hK.out _ _ ?_ (fun hHeld => ?_)
  · exact ⟨(HX5.out.drow.cell 12).trans (by rw [HMZ.out]; rfl), HX5.out.row1.range _ (fun j v hv => by match j, hv with | 0, hv | 1, hv => exact hv | j + 2, hv => simp at hv)⟩
  clear hK K
  (try simp only [Act.put, List.setIfInBounds_toArray, List.set_cons_zero, List.set_cons_succ])
  refine wpAnyH_done (by kernel_rfl) ?_ _
  clear HD5
  have c12 : x5.cell? ⟨b, 12, none⟩ = some (ptr fb) := (HX5.out.drow.cell 12).trans (by rw [HMZ.out]; rfl)
  go_wp2_with fail
  refine (HX5.out.dfleet (fun _ ⟨_, _, _, _, h⟩ => mfill_any h)).mono ?_
  rintro e x6 ⟨rfl, h⟩
  have HX6 := Lib.hid h
  clear h HX5 c12
  go_wp2
  go_ret
  refine ⟨b, rfl, ?_⟩
  have h := HX6.out.dfin
  rw [show ({ mz with k := fillL (scaleL mz.k w0), l := fillL (scaleL mz.l w1) } : Md) = newM ⟨ph, ac, r0, r1, w0, w1, p0, p1, dl, gn, sw, fl⟩ tries by rw [HMZ.out]; rfl] at h
  obtain ⟨O, g1, g2, g3⟩ := h
  exact ⟨O, g1, fun j hj => (g2 j hj).elim (fun h => h.elim) id, ⟨g3.os, g3.tape, g3.output, g3.size, fun j hj => g3.block j hj (fun h => h)⟩⟩
theorem dnew_any (s : St) (tries : Int) (w : World) : Calls Tryz.prog 9 #[stV s, .int .i64 tries] w fun e w' => ∃ b, e = .returned (ptr b) ∧ NewO DcP w w' b (newM s tries) := by
  obtain ⟨ph, ac, r0, r1, w0, w1, p0, p1, dl, gn, sw, fl⟩ := s
  exact dnew_c ph ac r0 r1 w0 w1 dl gn sw fl tries p0 p1 w
theorem liftD {O : Nat → Prop} {W : World} {b : Nat} {m m' : Md} {f : FuncId} {args : Array Value} {Pe : Ending → Prop} (h : DcP O W b m) (hc : ∀ fb rb, DcX fb rb O W b m → Calls Tryz.prog f args W fun e w' => Pe e ∧ TurnO (DcX fb rb) O W w' b m') : Calls Tryz.prog f args W fun e w' => Pe e ∧ TurnO DcP O W w' b m' := by
  obtain ⟨fb, rb, h1⟩ := h
  exact (hc fb rb h1).mono fun e w' ⟨he, O', g1, g2⟩ => ⟨he, O', ⟨fb, rb, g1⟩, g2⟩
theorem dop_any {O : Nat → Prop} {W : World} {b : Nat} {m : Md} (o : Oc) (h : DcP O W b m) (hI : MdI m) : Calls Tryz.prog 10 #[ptr b, opV o] W fun e w' => e = .returned (.int .i64 (opM m o).2) ∧ TurnO DcP O W w' b (opM m o).1 := liftD h (fun _ _ h => dop_m o h hI)
theorem dstep_any {O : Nat → Prop} {W : World} {b : Nat} {m : Md} (n : Nat) (v : Value) (xs : List Int) (h : DcP O W b m) (hI : MdI m) (hd : Bd n m.ro m.fu) (hn : n + 10 ≤ 1000) (hv : IntsI W v xs) (hx : xs.length ≤ 100) : Calls Tryz.prog 11 #[ptr b, v] W fun e w' => e = .returned (.int .i64 (stepM m xs).2) ∧ TurnO DcP O W w' b (stepM m xs).1 := liftD h (fun _ _ h => dstep_m n v xs h hI hd hn hv hx)
theorem dtick_any {O : Nat → Prop} {W : World} {b : Nat} {m : Md} (n : Int) (h : DcP O W b m) (hI : MdI m) (hn : Fits n) : Calls Tryz.prog 14 #[ptr b, .int .i64 n] W fun e w' => e = .returned (.tuple #[]) ∧ TurnO DcP O W w' b (tickM m n) := liftD h (fun _ _ h => dtick_m n h hI.tick hn)
theorem dreply_p {O : Nat → Prop} {W : World} {b : Nat} {m : Md} (h : DcP O W b m) : Calls Tryz.prog 17 #[ptr b] W fun e w' => e = .returned (repV m) ∧ TurnO DcP O W w' b m := liftD h (fun _ _ h => dreply_any h)
end
end Go.Proofs.YtchaeidmjoelnaaGreat
namespace Go.Proofs.YtchaeidmjoelnaaGreat
open Go.RowKit

/-- Two things in blocks of their own, the second one at block c. -/
def Duo (F G : ObIn Md) (c : Nat) : ObIn (Md × Md) := fun O W b x => ∃ O1 O2 : Nat → Prop, F O1 W b x.1 ∧ G O2 W c x.2 ∧ (∀ j, O1 j → O j) ∧ (∀ j, O2 j → O j) ∧ (∀ j, O1 j → ¬ O2 j) ∧ ∀ j, O j → j < W.heap.size
section
variable {F G G' : ObIn Md} {c b : Nat} {w W W' : World} {L : List Row} {m m' r r' : Md} {O : Nat → Prop}
theorem duo_keeps (hF : KeepsO F) (hG : KeepsO G) : KeepsO (Duo F G c) where
  lt := fun ⟨_, _, _, _, _, _, _, h⟩ => h
  keep := fun ⟨O1, O2, h1, h2, h3, h4, h5, h6⟩ hk => ⟨O1, O2, hF.keep h1 (fun j hj => hk j (h3 j hj)), hG.keep h2 (fun j hj => hk j (h4 j hj)), h3, h4, h5, keepD_lt h6 hk⟩
theorem duo_fst (hF : KeepsO F) (hG : KeepsO G) (h : Duo F G c O W b (m, r)) {f : FuncId} {args : Array Value} {Pe : Ending → Prop} (hc : ∀ O1, F O1 W b m → Calls Tryz.prog f args W fun e w' => Pe e ∧ TurnO F O1 W w' b m') : Calls Tryz.prog f args W fun e w' => Pe e ∧ TurnO (Duo F G c) O W w' b (m', r) := by
  obtain ⟨O1, O2, h1, h2, h3, h4, h5, h6⟩ := h
  refine (hc O1 h1).mono fun e w' ⟨he, O', g1, g2, g3⟩ => ⟨he, more O W w', ⟨O', O2, g1, hG.keep h2 (fun j hj => g3.block j (hG.lt h2 j hj) (fun e => h5 j e hj)), fun j hj => ?_, fun j hj => .inl (h4 j hj), fun j hj h2' => ?_, fun j hj => hj.elim (fun e => Nat.lt_of_lt_of_le (h6 j e) g3.size) And.right⟩, more_sub O W w', ⟨g3.os, g3.tape, g3.output, g3.size, fun j hj hn => g3.block j hj (fun e => hn (h3 j e))⟩⟩
  · rcases g2 j hj with e | e
    · exact .inl (h3 j e)
    · exact .inr ⟨e, hF.lt g1 j hj⟩
  · rcases g2 j hj with e | e
    · exact h5 j e h2'
    · have := hG.lt h2 j h2'; omega
/-- The first thing, the second one as it stands. -/
def Fix (F G : ObIn Md) (c : Nat) (r : Md) : ObIn Md := fun O W b m => Duo F G c O W b (m, r)
theorem pkgop_fix (hp : PkgOp F) (hG : KeepsO G) : PkgOp (Fix F G c r) where
  ks := ⟨fun h => (duo_keeps hp.ks hG).lt h, fun h hk => (duo_keeps hp.ks hG).keep h hk⟩
  op := fun o h hI ho => duo_fst hp.ks hG h (fun _ h1 => hp.op o h1 hI ho)
  step := fun n v xs h hI hd hn hv hx => duo_fst hp.ks hG h (fun _ h1 => hp.step n v xs h1 hI hd hn hv hx)
  ready := fun s i on h hI => duo_fst hp.ks hG h (fun _ h1 => hp.ready s i on h1 hI)
  tick := fun n h hI hn => duo_fst hp.ks hG h (fun _ h1 => hp.tick n h1 hI hn)
  reply := fun h hI => duo_fst hp.ks hG h (fun _ h1 => hp.reply h1 hI)
theorem one_fix (h : One (Duo F G c) w W L b (m, r)) : One (Fix F G c r) w W L b m := ⟨h.ex, h.low, h.rows, h.ge, h.nd⟩
theorem one_unfix (h : One (Fix F G c r) w W L b m) : One (Duo F G c) w W L b (m, r) := ⟨h.ex, h.low, h.rows, h.ge, h.nd⟩
/-- A call on the second thing. -/
theorem one_snd (hF : KeepsO F) (_hG : KeepsO G) (hG' : KeepsO G') (h : One (Duo F G c) w W L b (m, r)) {f : FuncId} {args : Array Value} {Pe : Ending → Prop} (hc : ∀ O2, G O2 W c r → Calls Tryz.prog f args W fun e w' => Pe e ∧ TurnO G' O2 W w' c r') : Calls Tryz.prog f args W fun e w' => Pe e ∧ One (Duo F G' c) w w' L b (m, r') := by
  obtain ⟨O, ⟨O1, O2, h1, h2, h3, h4, h5, h6⟩, h7, h8⟩ := h.ex
  refine (hc O2 h2).mono fun e w' ⟨he, O', g1, g2, g3⟩ => ⟨he, ⟨⟨more O W w', ⟨O1, O', hF.keep h1 (fun j hj => g3.block j (hF.lt h1 j hj) (h5 j hj)), g1, fun j hj => .inl (h3 j hj), fun j hj => ?_, fun j hj h2' => ?_, fun j hj => hj.elim (fun e => Nat.lt_of_lt_of_le (h6 j e) g3.size) And.right⟩, fun j hj => ?_, fun x hx ho => ?_⟩, g3.below h.low (fun j hj => h7 j (h4 j hj)) h.low.size, fun x hx => (g3.block x.1 (h.rows x hx).lt (fun e => h8 x hx (h4 _ e))).trans (h.rows x hx), h.ge, h.nd⟩⟩
  · rcases g2 j hj with e | e
    · exact .inl (h4 j e)
    · exact .inr ⟨e, hG'.lt g1 j hj⟩
  · rcases g2 j h2' with e | e
    · exact h5 j hj e
    · have := hF.lt h1 j hj; omega
  · rcases hj with e | e
    · exact h7 j e
    · exact Nat.le_trans h.low.size e.1
  · rcases ho with e | e
    · exact h8 x hx e
    · have := (h.rows x hx).lt; omega
/-- The second thing is made beside the first one. -/
theorem one_join (hF : KeepsO F) (hG : KeepsO G) (h : One F w W L b m) (hn : NewO G W W' c r) : One (Duo F G c) w W' L b (m, r) := by
  obtain ⟨O1, h1, h2, h3⟩ := h.ex
  obtain ⟨O2, g1, g2, g3⟩ := hn
  have hk := h.keep hF g3
  refine ⟨⟨fun j => O1 j ∨ O2 j, ⟨O1, O2, hF.keep h1 (fun j hj => g3.block j (hF.lt h1 j hj)), g1, fun j => .inl, fun j => .inr, fun j hj hj2 => ?_, fun j hj => ?_⟩, fun j hj => ?_, fun x hx ho => ?_⟩, hk.low, hk.rows, hk.ge, hk.nd⟩
  · have := hF.lt h1 j hj; have := g2 j hj2; omega
  · rcases hj with e | e
    · exact Nat.lt_of_lt_of_le (hF.lt h1 j e) g3.size
    · exact hG.lt g1 j e
  · rcases hj with e | e
    · exact h2 j e
    · exact Nat.le_trans h.low.size (g2 j e)
  · rcases ho with e | e
    · exact h3 x hx e
    · have := (h.rows x hx).lt; have := g2 _ e; omega
theorem one_weak (h : One (Duo F G c) w W L b (m, r)) (hG : ∀ O W b m, G O W b m → G' O W b m) : One (Duo F G' c) w W L b (m, r) := by
  obtain ⟨O, ⟨O1, O2, h1, h2, h3⟩, h4⟩ := h.ex
  exact ⟨⟨O, ⟨O1, O2, h1, hG _ _ _ _ h2, h3⟩, h4⟩, h.low, h.rows, h.ge, h.nd⟩
end
/-! The document's model, its fleet at a known block; behind its fleet's Slot. -/
def DcF (fb : Nat) : ObIn Md := fun O W b m => ∃ rb, DcX fb rb O W b m
def DcS (fb x : Nat) (s : Int) : ObIn Md := fun O W b m => ∃ rb OF OR, DcM O W b fb rb OF OR m ∧ FlS x s OF W fb m.k m.l
theorem dcf_keeps (fb : Nat) : KeepsO (DcF fb) where
  lt := fun ⟨_, _, _, h⟩ => h.lt
  keep := fun ⟨rb, OF, OR, h⟩ hk => ⟨rb, OF, OR, h.keep hk⟩
theorem dcs_keeps (fb x : Nat) (s : Int) : KeepsO (DcS fb x s) where
  lt := fun ⟨_, _, _, h, _⟩ => h.lt
  keep := fun ⟨rb, OF, OR, h, h2⟩ hk => ⟨rb, OF, OR, h.keep hk, (fls_keeps x s).keep h2 (fun j hj => hk j (h.sf j hj))⟩
section
variable {F : ObIn Md} {c b fb rb x : Nat} {w W W' : World} {L : List Row} {m r : Md} {O OF OR OF' : Nat → Prop} {s : Int}
theorem one_fb (h : One (Duo F DcP c) w W L b (m, r)) : ∃ fb, One (Duo F (DcF fb) c) w W L b (m, r) ∧ W.cell? ⟨c, 12, none⟩ = some (ptr fb) := by
  obtain ⟨O, ⟨O1, O2, h1, ⟨fb, rb, h2⟩, h3⟩, h4⟩ := h.ex
  refine ⟨fb, ⟨⟨O, ⟨O1, O2, h1, ⟨rb, h2⟩, h3⟩, h4⟩, h.low, h.rows, h.ge, h.nd⟩, ?_⟩
  obtain ⟨_, _, h5⟩ := h2
  rw [h5.row.cell]
  rfl
theorem dcf_p : ∀ O W b m, DcF fb O W b m → DcP O W b m := fun _ _ _ _ ⟨rb, h⟩ => ⟨fb, rb, h⟩
theorem DcM.fleetS (h : DcM O W b fb rb OF OR m) (g1 : FlS x s OF' W' fb m.k m.l) (g2 : ∀ j, OF' j → OF j ∨ W.heap.size ≤ j) (g3 : ButO OF W W') : TurnO (DcS fb x s) O W W' b m := by
  have hb : ∀ j, O j → ¬ OF j → W'.heap[j]? = W.heap[j]? := fun j hj hn => g3.block j (h.lt j hj) hn
  have hm : FlM OF' W' fb m.k m.l := by
    obtain ⟨a, c, va, vc, h1, _⟩ := g1
    exact ⟨a, c, va, vc, h1⟩
  refine ⟨more O W W', ⟨rb, OF', OR, ⟨(hb b h.ob h.nf).trans h.row, hm, rod_keeps.keep h.ro (fun j hj => hb j (h.sr j hj) (fun hf => h.fr j hf hj)), fun ho => ?_, h.nr, fun j hf hr => ?_, .inl h.ob, fun j hf => ?_, fun j hr => .inl (h.sr j hr), fun j hj => hj.elim (fun e => Nat.lt_of_lt_of_le (h.lt j e) g3.size) And.right⟩, g1⟩, more_sub O W W', ⟨g3.os, g3.tape, g3.output, g3.size, fun j hj hn => g3.block j hj (fun e => hn (h.sf j e))⟩⟩
  · rcases g2 b ho with e | e
    · exact h.nf e
    · have := h.lt b h.ob; omega
  · rcases g2 j hf with e | e
    · exact h.fr j e hr
    · have := h.lt j (h.sr j hr); omega
  · rcases g2 j hf with e | e
    · exact .inl (h.sf j e)
    · exact .inr ⟨e, flm_keeps.lt hm j hf⟩
theorem one_slot (hF : KeepsO F) (s : Int) (h : One (Duo F (DcF fb) c) w W L b (m, r)) : Calls Tryz.prog 12 #[ptr fb, .int .i64 s] W fun e w' => ∃ x, e = .returned (ptr x) ∧ One (Duo F (DcS fb x s) c) w w' L b (m, r) := by
  obtain ⟨O, ⟨O1, O2, h1, ⟨rb, OF, OR, h2⟩, h3, h4, h5, h6⟩, h7, h8⟩ := h.ex
  obtain ⟨a, d, va, vc, h9⟩ := h2.fl
  refine (mslot_any s h9).mono fun e w' ⟨x, OF', he, g1, g2, g3, g4⟩ => ⟨x, he, ?_⟩
  have ht : TurnO (DcS fb x s) O2 W w' c r := h2.fleetS ⟨a, d, va, vc, g1, g2⟩ g3 (ButO.of_below g4)
  obtain ⟨O', k1, k2, k3⟩ := ht
  refine ⟨⟨more O W w', ⟨O1, O', hF.keep h1 (fun j hj => k3.block j (hF.lt h1 j hj) (h5 j hj)), k1, fun j hj => .inl (h3 j hj), fun j hj => ?_, fun j hj h2' => ?_, fun j hj => hj.elim (fun e => Nat.lt_of_lt_of_le (h6 j e) k3.size) And.right⟩, fun j hj => ?_, fun y hy ho => ?_⟩, k3.below h.low (fun j hj => h7 j (h4 j hj)) h.low.size, fun y hy => (k3.block y.1 (h.rows y hy).lt (fun e => h8 y hy (h4 _ e))).trans (h.rows y hy), h.ge, h.nd⟩
  · rcases k2 j hj with e | e
    · exact .inl (h4 j e)
    · exact .inr ⟨e, (dcs_keeps fb x s).lt k1 j hj⟩
  · rcases k2 j h2' with e | e
    · exact h5 j hj e
    · have := hF.lt h1 j hj; omega
  · rcases hj with e | e
    · exact h7 j e
    · exact Nat.le_trans h.low.size e.1
  · rcases ho with e | e
    · exact h8 y hy e
    · have := (h.rows y hy).lt; omega
theorem one_sready (hF : KeepsO F) (i : Int) (on : Bool) (h : One (Duo F (DcS fb x s) c) w W L b (m, r)) : Calls Tryz.prog 13 #[ptr x, .int .i64 i, .bool on] W fun e w' => e = .returned (.bool (decide (isW (slotK s r.k r.l) i))) ∧ One (Duo F (DcF fb) c) w w' L b (m, readyM r s i on) :=
  one_snd hF (dcs_keeps fb x s) (dcf_keeps fb) h fun O2 ⟨rb, OF, OR, h1, a, d, va, vc, h2, h3⟩ => (mready_at i on h2 h3).mono fun e w' ⟨he, ht⟩ => ⟨he, by
    obtain ⟨O', g1, g2⟩ := h1.fleet ht
    exact ⟨O', ⟨rb, g1⟩, g2⟩⟩
theorem one_cF (h : One (Duo F (DcF fb) c) w W L b (m, r)) : W.cell? ⟨c, 12, none⟩ = some (ptr fb) := by
  obtain ⟨O, ⟨O1, O2, h1, ⟨rb, _, _, h2⟩, h3⟩, h4⟩ := h.ex
  rw [h2.row.cell]
  rfl
theorem one_cS (h : One (Duo F (DcS fb x s) c) w W L b (m, r)) : W.cell? ⟨c, 12, none⟩ = some (ptr fb) := by
  obtain ⟨O, ⟨O1, O2, h1, ⟨rb, _, _, h2, _⟩, h3⟩, h4⟩ := h.ex
  rw [h2.row.cell]
  rfl
end
end Go.Proofs.YtchaeidmjoelnaaGreat
