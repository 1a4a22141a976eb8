/-
  What package intent's within answers: is each of these fields in its range?
-/
import Derived.Test.YthombepmlepgfaaDoorNumb
namespace Go.Proofs.YthombepmlepgfaaDoor
open Go.RowKit

/-- The table of ranges lies in block 0. -/
def Gl (w : World) : Prop := 0 < w.heap.size ∧ ∀ f, f < 18 → w.cell? ⟨0, f * 2, none⟩ = some (.int .i64 (at_ los f)) ∧ w.cell? ⟨0, f * 2 + 1, none⟩ = some (.int .i64 (at_ his f))
theorem Gl.under {w w' : World} {B : Nat} (h : Gl w) (hb : Below B w w') (hB : 0 < B) : Gl w' :=
  ⟨Nat.lt_of_lt_of_le h.1 hb.size, fun f hf => ⟨(hb.cell (p := ⟨0, f * 2, none⟩) hB).trans (h.2 f hf).1, (hb.cell (p := ⟨0, f * 2 + 1, none⟩) hB).trans (h.2 f hf).2⟩⟩
def nums' (fs : List Nat) : List Int := fs.map Int.ofNat
theorem nums'_len (fs : List Nat) : (nums' fs).length = fs.length := List.length_map _
theorem nums'_at (fs : List Nat) (k : Nat) (h : k < fs.length) : (ints (nums' fs))[k]? = some (.int .i64 (fs[k] : Int)) := by
  simp [ints, nums', h]
theorem arr_at (l : List Int) (f : Nat) (h : f < l.length) : ((ints l).toArray)[f]? = some (.int .i64 (at_ l f)) := by
  simp [ints, at_, h]
theorem inside_no {l : List Int} {fs : List Nat} (k : Nat) (h : k < fs.length) (hx : okAt l fs[k] = false) : inside l fs = false := by
  unfold inside
  rw [List.all_eq_false]
  exact ⟨fs[k], List.getElem_mem h, by simp [hx]⟩
theorem inside_yes {l : List Int} {fs : List Nat} (h : ∀ k (hk : k < fs.length), okAt l fs[k] = true) : inside l fs = true := by
  unfold inside
  rw [List.all_eq_true]
  intro x hx
  obtain ⟨k, hk, rfl⟩ := List.getElem_of_mem hx
  exact h k hk

set_option maxRecDepth 100000 in
set_option maxHeartbeats 2000000 in
theorem within_any (l : List Int) (fs : List Nat) (v : Value) (w : World) (hl : l.length = 18) (hf : ∀ f ∈ fs, f < 18) (hn : fs.length ≤ 12) (hv : Vals w v (ints (nums' fs))) (hg : Gl w) :
    Calls Tryd.prog 18 #[arrV l, v] w fun e w' => e = .returned (.bool (inside l fs)) ∧ Below w.heap.size w w' := by
  have hA : ∃ A c, v = .slice A fs.length c := by
    obtain ⟨A, c, h⟩ := hv.slice
    exact ⟨A, c, by rw [h, ints_len, nums'_len]⟩
  obtain ⟨A, c, rfl⟩ := hA
  have HV := Lib.hid hv
  have HG := Lib.hid hg
  have HF := Lib.hid hf
  have HL := Lib.hid hl
  clear hv hg hf hl
  unfold arrV
  obtain ⟨cs, hcs⟩ : ∃ cs, cs = (ints l).toArray := ⟨_, rfl⟩
  rw [← hcs]
  have HC := Lib.hid hcs
  clear hcs
  go_enter Tryd.func18, Tryd.ntmps18
  go_wp2
  go_loopg [9] fs.length (fun g i wr => ∃ k : Nat, Hid (g = fs.length - k) ∧ k ≤ fs.length ∧ i = .int .i64 k ∧ Hid (∀ j (hj : j < fs.length), j < k → okAt l fs[j] = true) ∧ Hid (Rw wr w.heap.size cs 49) ∧ Hid (Below w.heap.size w wr))
  case atStart => exact ⟨0, Lib.hid rfl, Nat.zero_le _, rfl, Lib.hid (fun j _ h => by omega), Lib.hid (Rw.new _ _ _), Lib.hid ((Below.refl _ _).alloc (Nat.le_refl _) _)⟩
  case round =>
    obtain ⟨k, HK, hk, rfl, HP, HR, HB⟩ := hrel
    by_cases hlt : k < fs.length
    · obtain ⟨b, off, c', hve, hcc, hb, hxx⟩ := HV.out.full (by rw [ints_len, nums'_len]; omega)
      obtain rfl : A = some ⟨b, off, none⟩ := by injection hve
      obtain ⟨f, hfd⟩ : ∃ f, f = fs[k] := ⟨_, rfl⟩
      have hf18 : f < 18 := by rw [hfd]; exact HF.out _ (List.getElem_mem hlt)
      have cj : wr.cell? ⟨b, off + k, none⟩ = some (.int .i64 (f : Int)) := by
        rw [hfd]
        exact (HB.out.cell (p := ⟨b, off + k, none⟩) hb).trans (hxx k _ (nums'_at fs k hlt))
      have cx : wr.cell? ⟨w.heap.size, f, none⟩ = some (.int .i64 (at_ l f)) := by
        rw [HR.out.cell f, HC.out, arr_at l f (by rw [HL.out]; exact hf18)]
      have hgl := HG.out.under HB.out HG.out.1
      obtain ⟨g1, g2⟩ := hgl.2 f hf18
      have HFD := Lib.hid hfd
      clear hve hcc hxx hgl hfd
      obtain ⟨x, hx⟩ : ∃ x, x = at_ l f := ⟨_, rfl⟩
      obtain ⟨lo, hlo⟩ : ∃ x, x = at_ los f := ⟨_, rfl⟩
      obtain ⟨hi, hhi⟩ : ∃ x, x = at_ his f := ⟨_, rfl⟩
      have HO : Hid (okAt l f = (decide (lo ≤ x) && decide (x ≤ hi))) := Lib.hid (by unfold okAt; rw [hx, hlo, hhi])
      rw [← hx] at cx
      rw [← hlo] at g1
      rw [← hhi] at g2
      clear hx hlo hhi
      by_cases h1 : x < lo
      · have HE : Hid (inside l fs = false) := Lib.hid (inside_no k hlt (by rw [← HFD.out, HO.out]; simp; omega))
        have e1 : decide (x < lo) = true := by simpa using h1
        go_wp2_with fail
        go_quiet (fail)
        go_wp2
        go_ret
        exact ⟨by rw [HE.out]; rfl, HB.out.trans (below_drewN _ _ _)⟩
      · have e1 : decide (x < lo) = false := by simpa using h1
        by_cases h2 : hi < x
        · have HE : Hid (inside l fs = false) := Lib.hid (inside_no k hlt (by rw [← HFD.out, HO.out]; simp; omega))
          have e2 : decide (hi < x) = true := by simpa using h2
          go_wp2_with fail
          go_quiet (fail)
          go_wp2
          go_ret
          exact ⟨by rw [HE.out]; rfl, HB.out.trans (below_drewN _ _ _)⟩
        · have e2 : decide (hi < x) = false := by simpa using h2
          have HE : Hid (okAt l fs[k] = true) := Lib.hid (by rw [← HFD.out, HO.out]; simp; omega)
          go_wp2_with fail
          go_quiet (fail)
          go_wp2
          go_roundg (fs.length - (k + 1))
          case measure => have := HK.out; omega
          case rel =>
            refine ⟨k + 1, Lib.hid rfl, by omega, by go_num, Lib.hid (fun j hj h => ?_), Lib.hid HR.out, Lib.hid (HB.out.trans (below_drewN _ _ _))⟩
            rcases (by omega : j < k ∨ j = k) with h | rfl
            · exact HP.out j hj h
            · exact HE.out
    · have HE : Hid (inside l fs = true) := Lib.hid (inside_yes fun j hj => HP.out j hj (by omega))
      go_wp2
      go_ret
      exact ⟨by rw [HE.out]; rfl, HB.out⟩
end Go.Proofs.YthombepmlepgfaaDoor
