/-
  switchback's IntentApart: Two records have the same bytes just if they are the same. For every input the law returns true, and each argument reads afterwards as it read before; switchback/intent.reaches is as the program's text lays it (the card ties it). No condition beside the row's own.
-/
import Derived.Test.YthombepmlepgfaaDoorLift
import Derived.Test.YthombepmlepgfaaDoorSize
namespace Go.Proofs.YthombepmlepgfaaDoor.intentApart
open Go.Proofs.YthombepmlepgfaaDoor
open Go.ChangeShapes Go.WideShapes Go.ChangeAt Go.RowKit
set_option linter.unusedVariables false

theorem str_ne {a b : ByteArray} (h : ¬ a = b) : (a.toList == b.toList) = false := by
  rw [beq_eq_false_iff_ne]
  intro e
  rw [ByteArray.toList_eq, ByteArray.toList_eq] at e
  exact h (ByteArray.ext (Array.toList_inj.1 e))
set_option maxRecDepth 100000 in
set_option maxHeartbeats 4000000 in
theorem walk (a b : Rc) (w : World) (hg : Gl w) (ha : FitsR a) (hb : FitsR b) : Calls Tryd.prog 8 #[recV a, recV b] w (Holds w) := by
  have HG := Lib.hid hg
  have HPA : Hid (∀ W, Gl W → Calls Tryd.prog 9 #[recV a] W fun e w' => e = .returned (.tuple #[.string (rput a).1, .int .i64 ((rput a).2 : Int)]) ∧ Below W.heap.size W w') := Lib.hid (fun W h => iput_any a W ha h)
  have HPB : Hid (∀ W, Gl W → Calls Tryd.prog 9 #[recV b] W fun e w' => e = .returned (.tuple #[.string (rput b).1, .int .i64 ((rput b).2 : Int)]) ∧ Below W.heap.size W w') := Lib.hid (fun W h => iput_any b W hb h)
  have HI : Hid ((rput a).2 = 0 → (rput b).2 = 0 → ((rput a).1 = (rput b).1 ↔ a = b)) := Lib.hid rput_inj
  obtain ⟨q, hq, hqi⟩ := eq27 ha hb
  unfold recV at HPA HPB hq ⊢
  obtain ⟨x, hx⟩ : ∃ x, x = (rput a).1 := ⟨_, rfl⟩
  obtain ⟨y, hy⟩ : ∃ y, y = (rput b).1 := ⟨_, rfl⟩
  obtain ⟨ea, hea⟩ : ∃ e, e = (rput a).2 := ⟨_, rfl⟩
  obtain ⟨eb, heb⟩ : ∃ e, e = (rput b).2 := ⟨_, rfl⟩
  rw [← hx, ← hea] at HPA
  rw [← hy, ← heb] at HPB
  rw [← hx, ← hy, ← hea, ← heb, ← hqi] at HI
  obtain ⟨ca, hca⟩ : ∃ c, c = recC a := ⟨_, rfl⟩
  obtain ⟨cb, hcb⟩ : ∃ c, c = recC b := ⟨_, rfl⟩
  have HZA : Hid (ca.size = 19) := Lib.hid (by rw [hca]; rfl)
  have HZB : Hid (cb.size = 19) := Lib.hid (by rw [hcb]; rfl)
  rw [← hca, ← hcb] at hq ⊢
  rw [← hca] at HPA
  rw [← hcb] at HPB
  clear hx hy hea heb hca hcb hg ha hb hqi
  go_enter Tryd.func8, Tryd.ntmps8
  go_upto_region 1 with (fail)
  refine name_w (fun W => Rw W w.heap.size ca 27 ∧ Rw W (w.heap.size + 1) cb 27 ∧ Below w.heap.size w W) ⟨(Rw.new _ _ _).alloc _, ?_, ((Below.refl _ _).alloc (Nat.le_refl _) _).alloc (by simp) _⟩ ?_
  · have h1 := Rw.new (w.alloc (.cells ca 27)) cb 27
    rw [size_alloc] at h1
    exact h1
  rintro w0 ⟨hA, hB, hBl⟩
  have RA_w0 := Lib.hid hA
  have RB_w0 := Lib.hid hB
  have HB_w0 := Lib.hid hBl
  clear hA hB hBl
  go_wp2_with (refine wpList_load_any (by rfl) 27 (.tmp 2) rfl w.heap.size rfl 27 ca (0, 0) _ RA_w0.out Tryd.underlying27 rfl (by rw [HZA.out]; exact i19) ?_)
  refine (HPA.out _ (HG.out.under HB_w0.out HG.out.1)).mono ?_
  rintro e w1 ⟨rfl, hb⟩
  have HB_w1 := Lib.hid (HB_w0.out.trans (hb.mono HB_w0.out.size))
  have RA_w1 := Lib.hid (RA_w0.out.under hb RA_w0.out.lt)
  have RB_w1 := Lib.hid (RB_w0.out.under hb RB_w0.out.lt)
  clear hb RA_w0 RB_w0
  go_wp2_with (refine wpList_load_any (by rfl) 27 (.tmp 3) rfl (w.heap.size + 1) rfl 27 cb (0, 0) _ RB_w1.out Tryd.underlying27 rfl (by rw [HZB.out]; exact i19) ?_)
  refine (HPB.out _ (HG.out.under HB_w1.out HG.out.1)).mono ?_
  rintro e w2 ⟨rfl, hb⟩
  have HB_w2 := Lib.hid (HB_w1.out.trans (hb.mono HB_w1.out.size))
  have RA_w2 := Lib.hid (RA_w1.out.under hb RA_w1.out.lt)
  have RB_w2 := Lib.hid (RB_w1.out.under hb RB_w1.out.lt)
  clear hb RA_w1 RB_w1
  go_wp2_with fail
  refine (awake_yes _ (HG.out.under HB_w2.out HG.out.1)).mono ?_
  rintro e w3 ⟨rfl, hb⟩
  have HB_w3 := Lib.hid (HB_w2.out.trans (hb.mono HB_w2.out.size))
  have RA_w3 := Lib.hid (RA_w2.out.under hb RA_w2.out.lt)
  have RB_w3 := Lib.hid (RB_w2.out.under hb RB_w2.out.lt)
  clear hb RA_w2 RB_w2
  by_cases h1 : ea = 0
  · by_cases h2 : eb = 0
    · have hI := HI.out h1 h2
      subst h1 h2
      have hxy : (x.toList == y.toList) = q := by
        by_cases e : x = y
        · rw [hI.1 e, e]; simp
        · have : q = false := by
            cases q
            · rfl
            · exact absurd (hI.2 rfl) e
          rw [this]
          exact str_ne e
      clear hI HI
      go_wp2_with (first | (refine wpList_load_any (by rfl) 27 (.tmp 2) rfl w.heap.size rfl 27 ca (0, 0) _ RA_w3.out Tryd.underlying27 rfl (by rw [HZA.out]; exact i19) ?_) | (refine wpList_load_any (by rfl) 27 (.tmp 3) rfl (w.heap.size + 1) rfl 27 cb (0, 0) _ RB_w3.out Tryd.underlying27 rfl (by rw [HZB.out]; exact i19) ?_))
      go_ret
      exact ⟨rfl, HB_w3.out⟩
    · subst h1
      have e2 : ((eb : Int) != 0) = true := by simpa using h2
      clear h2 HI
      go_wp2
      go_ret
      exact ⟨rfl, HB_w3.out⟩
  · have e1 : ((ea : Int) != 0) = true := by simpa using h1
    clear h1 HI
    go_wp2
    go_ret
    exact ⟨rfl, HB_w3.out⟩

/-! From the walk to the given row and card. -/
set_option maxRecDepth 100000 in
theorem lifted (os : Os) (started : os.Started) (H : Type) (enc : TypeId × Value → H) :
    ReturnsInHanded {} Tryd.checked os 8 .any (fun w args => (Rows.intentApartSpec.pre enc Tryd.prog Tryd.f8 [] false w args ∧ laidMetH Tryd.prog laidList w) ∧ sizedMet enc Tryd.prog Tryd.f8 (OpenSpec.ofChange Rows.intentApartSpec) false w args)
      (Rows.intentApartSpec.post enc Tryd.prog Tryd.f8 false true false false) := by
  refine returnsInHanded_of_change_and (C := Tryd.checked) (X := fun w _ => laidMetH Tryd.prog laidList w) (fun _ _ _ hh h => h.of_heap hh) t_own started (by kernel_rfl) Tryd.func8
    (ChangeSpec.witness_shaped (enc := enc) (C := Tryd.checked) (os := os) (X := fun w _ => laidMetH Tryd.prog laidList w) false (laidWorld os) #[recV zeroR, recV zeroR] 8 rfl (World.shaped_of_RefB (by kernel_rfl) (by kernel_rfl)) (by kernel_rfl) (by kernel_rfl) (by kernel_rfl) (laidWorld_met os _)) ?_
  intro W base args ds gs before hval0 hW _ _ hL _
  have hval : ∀ (j : Nat) t v, Tryd.f8.params[j]? = some t → args[j]? = some v → Value.okWide Tryd.prog W .any base t v := hval0
  have hW' := hW
  obtain ⟨p, q, hA0, hV0, rfl, hfz, hnd⟩ := hW
  have hA : DataW.TrodAll enc Tryd.prog W 0 (fun _ => true) true Tryd.f8.params.toList args.toList ds p := hA0
  rw [Tryd.params8] at hA hval
  obtain ⟨v0, vs0, d0, ds0, p0, q0, hargs, rfl, rfl, h0, r0_⟩ := trodAll_cons hA
  obtain ⟨v1, vs1, d1, ds1, p1, q1, rfl, rfl, rfl, h1, r1_⟩ := trodAll_cons r0_
  obtain ⟨rfl, rfl, rfl⟩ := trodAll_nil r1_
  obtain rfl : args = #[v0, v1] := by cases args; simp_all
  obtain ⟨r, rfl, hr⟩ := open_rec (hval 0 27 v0 rfl rfl) h0
  obtain ⟨r2, rfl, hr2⟩ := open_rec (hval 1 27 v1 rfl rfl) h1
  refine (walk r r2 W (gl_of_laid hL) hr hr2).mono fun e W' ⟨he, hb⟩ => ?_
  subst he
  exact ⟨_, rfl, post_of_holds hW' (by kernel_rfl) rfl (by rw [Tryd.params8]; exact fun t ht => params_ok t (by simp at ht; subst ht; simp)) ⟨rfl, rfl, rfl⟩ hb⟩

theorem row_holds : Rows.IntentApartSaid :=
  OpenClaim.holds_of_wide 8 Tryd.f8 rfl rfl rfl rfl rfl rfl rfl ⟨rfl, rfl, rfl, rfl, rfl⟩ rfl rfl rfl rfl rfl (by kernel_rfl) Tryd.func8 (by kernel_rfl)
    (of_decide_eq_true (by kernel_rfl)) (by unfold Func.isWrapper; first | (rw [if_pos (by decide +kernel)]; kernel_rfl) | (rw [if_neg (by decide +kernel)]; exact ⟨rfl, rfl⟩))
    (fun os started H enc _ => lifted os started H enc)

/-- The given statement. -/
theorem proved : Rows.IntentApartCardSaid :=
  Claim7.holds_tied_plain_at .later [] [.data] true (true, "365df40b4b06091b173e89a3fcd023001c63cb50760d75e96657b72a7a900189") false
    row_holds (fun _ h => by cases h) (by kernel_rfl) (fun _ h => by cases h) intentApart_row_tie rfl ⟨rfl, rfl⟩ (by kernel_rfl) rfl
    (fun f fn hf hfn => by
      obtain rfl : f = 8 := Option.some.inj ((show Tryd.prog.funcNamed "switchback/switchbacklaw09.IntentApart" = some 8 by kernel_rfl).symm.trans hf) |>.symm
      obtain rfl : fn = Tryd.f8 := (Option.some.inj (Tryd.func8.symm.trans hfn)).symm
      exact ⟨by kernel_rfl, fun j t ht => by
        rw [Tryd.params8] at ht
        have ht' : t ∈ [27, 27] := by
          have := Array.mem_of_getElem? ht
          simpa using this
        exact params_plain t (by simp at ht'; subst ht'; simp)⟩)
    (by kernel_rfl)
#print axioms proved
end Go.Proofs.YthombepmlepgfaaDoor.intentApart
