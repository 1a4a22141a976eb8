/-
  Package router in memory: Call, all ways joined.
-/
import Derived.Test.YtjalmfomeehpgaaPkC
namespace Go.Proofs.Ytjalmfomeehpgaa
open Go.RowKit

theorem pspend_any (g : Nat) (f : Fu) (w : World) (hf : Fine f) (h : Fz w g 57 f) : Calls Try.prog 26 #[.pointer (some ⟨g, 0, none⟩)] w fun e w' => e = .returned (.bool (bears f)) ∧ Fz w' g 57 (spent f) ∧ Only g w w' := by
  obtain ⟨a, l, bl, c⟩ := f
  obtain ⟨h1, _, h3⟩ := hf
  simp only at h1 h3
  cases a with
  | false => exact spend_free g l bl c w h3.1 h3.2 h
  | true =>
    by_cases hl : l = 0
    · subst hl
      exact spend_no g bl c w h
    · have e : bears ⟨true, l, bl, c⟩ = true := by simp [bears, hl]
      have h4 := spend_some g l bl c w (by have := h1 rfl; omega) (h1 rfl).2 h3.1 h3.2 h
      unfold spent
      rw [e, if_pos rfl]
      exact h4
theorem RoP.ng {W : World} {b g : Nat} {v : Value} {s : Ro} {f : Fu} {t : TypeId} (h : RoP W b g v s) (hf : Fz W g t f) (ht : t ≠ 3) : v.ownBlock ≠ some g := fun e => by
  obtain ⟨cur, hc⟩ := h.own.kind g e
  unfold Fz at hf
  rw [hf] at hc
  simp at hc
  exact ht hc.2
theorem RoP.only {W W' : World} {b g : Nat} {v : Value} {s : Ro} {f : Fu} (h : RoP W b g v s) (hf : Fz W g 57 f) (hbg : b ≠ g) (ho : Only g W W') : RoP W' b g v s :=
  h.but (ho.block b hbg) (fun k hk => ho.block k (fun e => h.ng hf (by decide) (e ▸ hk)))
set_option maxRecDepth 100000 in
set_option maxHeartbeats 4000000 in
theorem pcall_range (b : Nat) (gen slot : Int) (w : World) (hr : ¬ inRange gen slot) : Calls Try.prog 22 #[.pointer (some ⟨b, 0, none⟩), .int .i64 gen, .int .i64 slot] w fun e w' => e = .returned (.int .i64 1) ∧ w = w' := by
  have H : Hid (decide (inRange gen slot) = false) := Lib.hid (decide_eq_false hr)
  clear hr
  go_enter Try.func22, Try.ntmps22
  go_wp2_with fail
  refine (right_any gen slot w).mono ?_
  rintro e w1 ⟨rfl, rfl⟩
  rw [H.out]
  go_wp2
  go_ret
  exact ⟨rfl, rfl⟩
set_option maxRecDepth 100000 in
set_option maxHeartbeats 4000000 in
theorem pcall_halt (b g : Nat) (s : Ro) (f : Fu) (gen slot : Int) (v : Value) (w : World) (h : RoP w b g v s) (hz : Fz w g 57 f) (hbg : b ≠ g) (hr : inRange gen slot) (hf : Fine f) (hb : bears f = false) : Calls Try.prog 22 #[.pointer (some ⟨b, 0, none⟩), .int .i64 gen, .int .i64 slot] w fun e w' => e = .returned (.int .i64 2) ∧ (∃ v', RoP w' b g v' s ∧ New w v v') ∧ Fz w' g 57 (spent f) ∧ But b g w w' := by
  have H : Hid (decide (inRange gen slot) = true) := Lib.hid (decide_eq_true hr)
  have c4 : w.cell? ⟨b, 4, none⟩ = some (.pointer (some ⟨g, 0, none⟩)) := by rw [cell_of_row w b 4 _ _ _ h.row]; rfl
  have HS := Lib.hid (pspend_any g f w hf hz)
  rw [hb] at HS
  have HK : Hid (∀ w1, Only g w w1 → (∃ v', RoP w1 b g v' s ∧ New w v v') ∧ But b g w w1) := Lib.hid (fun w1 ho => ⟨⟨v, h.only hz hbg ho, fun _ h => .inl h⟩, But.only ho⟩)
  clear hr h hz hbg hf hb
  go_enter Try.func22, Try.ntmps22
  go_wp2_with fail
  refine (right_any gen slot w).mono ?_
  rintro e w1 ⟨rfl, rfl⟩
  rw [H.out]
  go_wp2_with fail
  refine HS.out.mono ?_
  rintro e w2 ⟨rfl, hz2, ho⟩
  have HZ := Lib.hid hz2
  have HE := Lib.hid (HK.out w2 ho)
  clear hz2 ho HK HS c4
  go_wp2
  go_ret
  exact ⟨rfl, HE.out.1, HZ.out, HE.out.2⟩
/-- What lies there behind the fuse's Spend and next. -/
structure Took (w : World) (b g : Nat) (v : Value) (s : Ro) (f' : Fu) (W : World) : Prop where
  ro : ∃ v', RoP W b g v' { s with outs := s.outs.tail } ∧ v'.ownBlock = v.ownBlock
  fz : Fz W g 57 f'
  but : But b g w W
theorem Took.put {w W W' : World} {b g : Nat} {v v' : Value} {s s' : Ro} {f' : Fu} (h : Took w b g v s f' W) (hbg : b ≠ g) (hv : v'.ownBlock = v.ownBlock) (hr : RoP W' b g v' s') (hb : But b b W W') : (∃ v', RoP W' b g v' s' ∧ New w v v') ∧ Fz W' g 57 f' ∧ But b g w W' :=
  ⟨⟨v', hr, fun _ hk => .inl (hv ▸ hk)⟩, (hb.block g h.fz.lt (Ne.symm hbg) (Ne.symm hbg)).trans h.fz, h.but.trans hb.wide⟩
set_option maxRecDepth 100000 in
set_option maxHeartbeats 4000000 in
theorem pcall_done (b g : Nat) (s : Ro) (f : Fu) (gen slot : Int) (v : Value) (w : World) (h : RoP w b g v s) (hz : Fz w g 57 f) (hbg : b ≠ g) (hr : inRange gen slot) (hf : Fine f) (hb : bears f = true) (hwr : 0 ≤ s.writes ∧ s.writes ≤ 1000000) : Calls Try.prog 22 #[.pointer (some ⟨b, 0, none⟩), .int .i64 gen, .int .i64 slot] w fun e w' => e = .returned (.int .i64 (callE s gen slot)) ∧ (∃ v', RoP w' b g v' (callS s gen slot) ∧ New w v v') ∧ Fz w' g 57 (spent f) ∧ But b g w w' := by
  have H : Hid (decide (inRange gen slot) = true) := Lib.hid (decide_eq_true hr)
  have c4 : w.cell? ⟨b, 4, none⟩ = some (.pointer (some ⟨g, 0, none⟩)) := by rw [cell_of_row w b 4 _ _ _ h.row]; rfl
  have HS := Lib.hid (pspend_any g f w hf hz)
  rw [hb] at HS
  have HK : Hid (∀ w1, Only g w w1 → RoP w1 b g v s) := Lib.hid (fun w1 ho => h.only hz hbg ho)
  have HBG := Lib.hid hbg
  have HWR := Lib.hid hwr
  clear hr h hz hbg hf hb hwr
  go_enter Try.func22, Try.ntmps22
  go_wp2_with fail
  refine (right_any gen slot w).mono ?_
  rintro e w1 ⟨rfl, rfl⟩
  rw [H.out]
  go_wp2_with fail
  refine HS.out.mono ?_
  rintro e w2 ⟨rfl, hz2, ho⟩
  have HR2 := Lib.hid (HK.out w2 ho)
  have HZ2 := Lib.hid hz2
  have HO2 := Lib.hid ho
  clear hz2 ho HK HS c4
  go_wp2_with fail
  refine (pnext_any b g s v w2 HR2.out).mono ?_
  rintro e w3 ⟨rfl, h3, o3⟩
  have HT : Hid (Took w b g v s (spent f) w3) := Lib.hid ⟨h3, HZ2.out.only o3 (Ne.symm HBG.out), (But.only HO2.out).trans ⟨o3.os, o3.tape, o3.output, by rw [o3.size]; exact Nat.le_refl _, fun k _ h1 _ => o3.block k h1⟩⟩
  clear h3 o3 HR2 HZ2 HO2
  by_cases h2 : outS s = 2
  case pos =>
    have HE : Hid (callE s gen slot = 10) := Lib.hid (by unfold callE; rw [if_pos h2])
    have HC : Hid (callS s gen slot = { s with outs := s.outs.tail }) := Lib.hid (by unfold callS; rw [if_pos h2])
    rw [h2]
    clear h2
    go_wp2
    go_ret
    obtain ⟨v', hv1, hv2⟩ := HT.out.ro
    exact ⟨by rw [HE.out]; rfl, by rw [HC.out]; exact HT.out.put HBG.out hv2 hv1 (But.refl _ _ _)⟩
  have e2 : (outS s == 2) = false := by simpa using h2
  have N2 := Lib.hid h2
  clear h2
  have HCS : Hid (callS s gen slot = setS { s with outs := s.outs.tail } gen slot) := Lib.hid (by unfold callS setS; rw [if_neg N2.out])
  obtain ⟨v', hv1, hv2⟩ := HT.out.ro
  have HV := Lib.hid hv2
  have HPS := Lib.hid (pset_any b g { s with outs := s.outs.tail } gen slot v' w3 hv1 HWR.out)
  clear hv1 hv2
  by_cases h1 : outS s = 1
  case pos =>
    have HE : Hid (callE s gen slot = 10) := Lib.hid (by unfold callE; rw [if_neg N2.out, if_pos h1])
    rw [h1]
    clear h1 e2
    go_wp2_with fail
    refine HPS.out.mono ?_
    rintro e w4 ⟨rfl, hr4, hb4⟩
    have HF := Lib.hid (HT.out.put HBG.out HV.out hr4 hb4)
    clear hr4 hb4 HPS
    go_wp2
    go_ret
    exact ⟨by rw [HE.out]; rfl, by rw [HCS.out]; exact HF.out⟩
  have e1 : (outS s == 1) = false := by simpa using h1
  have HE : Hid (callE s gen slot = setE { s with outs := s.outs.tail } gen slot) := Lib.hid (by unfold callE setE noE; rw [if_neg N2.out, if_neg h1])
  clear h1
  go_wp2_with fail
  refine HPS.out.mono ?_
  rintro e w4 ⟨rfl, hr4, hb4⟩
  have HF := Lib.hid (HT.out.put HBG.out HV.out hr4 hb4)
  clear hr4 hb4 HPS
  go_wp2
  go_ret
  exact ⟨by rw [HE.out]; rfl, by rw [HCS.out]; exact HF.out⟩
theorem pcall_any (b g : Nat) (s : Ro) (f : Fu) (gen slot : Int) (v : Value) (w : World) (h : RoP w b g v s) (hz : Fz w g 57 f) (hbg : b ≠ g) (hf : Fine f) (hwr : 0 ≤ s.writes ∧ s.writes ≤ 1000000) :
    Calls Try.prog 22 #[.pointer (some ⟨b, 0, none⟩), .int .i64 gen, .int .i64 slot] w fun e w' => e = .returned (.int .i64 (toldC s f gen slot)) ∧ (∃ v', RoP w' b g v' (leftC s f gen slot) ∧ New w v v') ∧ Fz w' g 57 (fuseC f gen slot) ∧ But b g w w' := by
  unfold toldC leftC fuseC
  by_cases hr : inRange gen slot
  · rw [if_pos hr, if_pos hr, if_pos hr]
    cases hb : bears f with
    | false =>
      rw [if_neg (by decide), if_neg (by decide)]
      exact pcall_halt b g s f gen slot v w h hz hbg hr hf hb
    | true =>
      rw [if_pos rfl, if_pos rfl]
      exact pcall_done b g s f gen slot v w h hz hbg hr hf hb hwr
  · rw [if_neg hr, if_neg hr, if_neg hr]
    exact (pcall_range b gen slot w hr).mono fun e w' ⟨he, hw⟩ => by
      subst hw
      exact ⟨he, ⟨v, h, fun _ h => .inl h⟩, hz, But.refl _ _ _⟩
end Go.Proofs.Ytjalmfomeehpgaa
