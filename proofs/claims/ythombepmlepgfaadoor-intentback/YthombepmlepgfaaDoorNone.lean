/-
  What package intent's noneBeside answers: are all but these fields zero?
-/
import Derived.Test.YthombepmlepgfaaDoorRang
import Derived.Test.YthombepmlepgfaaDoorEqs
namespace Go.Proofs.YthombepmlepgfaaDoor
open Go.RowKit

theorem arr_set (l : List Int) (f : Nat) (x : Int) : ((ints l).toArray).setIfInBounds f (.int .i64 x) = (ints (l.set f x)).toArray := by
  simp [ints, List.map_set]
theorem Rw.put {W : World} {b : Nat} {l : List Int} {t : TypeId} (h : Rw W b (ints l).toArray t) (f : Nat) (x : Int) : Rw (W.setCell ⟨b, f, none⟩ (.int .i64 x)) b (ints (l.set f x)).toArray t := by
  have h1 := heap_setCell_same W b f _ t (.int .i64 x) h
  rw [arr_set] at h1
  exact h1
theorem below_setCell {B b f : Nat} {a W : World} (h : Below B a W) (hB : B ≤ b) (u : Value) : Below B a (W.setCell ⟨b, f, none⟩ u) :=
  ⟨h.os, h.tape, h.output, by simpa [World.setCell] using h.size, fun k hk => (Below.heap_setCell W ⟨b, f, none⟩ u k (by show k ≠ b; omega)).trans (h.block k hk)⟩
theorem Vals.setCell {W : World} {v : Value} {xs : List Value} {b f : Nat} {u : Value} {a : World} (h : Vals a v xs) (hb : Below a.heap.size a W) (hB : a.heap.size ≤ b) : Vals (W.setCell ⟨b, f, none⟩ u) v xs :=
  h.under (below_setCell hb hB u)
theorem zap_fits {l : List Int} (h : FitsAll l) (fs : List Nat) : FitsAll (zap l fs) := by
  induction fs generalizing l with
  | nil => exact h
  | cons f fs ih =>
    refine ih (l := l.set f 0) fun x hx => ?_
    rcases List.mem_or_eq_of_mem_set hx with hx | rfl
    · exact h x hx
    · unfold Fits; omega
theorem zeros_fit : FitsAll zeros := by
  intro x hx
  unfold Fits
  simp [zeros] at hx
  omega
theorem taken_snoc (fs : List Nat) (k : Nat) (h : k < fs.length) : fs.take (k + 1) = fs.take k ++ [fs[k]] := List.take_succ_eq_append_getElem h

set_option maxRecDepth 100000 in
set_option maxHeartbeats 2000000 in
theorem none_any (l : List Int) (fs : List Nat) (v : Value) (w : World) (hl : l.length = 18) (hF : FitsAll l) (hf : ∀ f ∈ fs, f < 18) (hn : fs.length ≤ 12) (hv : Vals w v (ints (nums' fs))) :
    Calls Tryd.prog 17 #[arrV l, v] w fun e w' => e = .returned (.bool (decide (zap l fs = zeros))) ∧ Below w.heap.size w w' := by
  have hA : ∃ A c, v = .slice A fs.length c := by
    obtain ⟨A, c, h⟩ := hv.slice
    exact ⟨A, c, by rw [h, ints_len, nums'_len]⟩
  obtain ⟨A, c, rfl⟩ := hA
  have HV := Lib.hid hv
  have HF := Lib.hid hf
  have HL := Lib.hid hl
  have HI := Lib.hid hF
  clear hv hf hl hF
  unfold arrV
  obtain ⟨cs, hcs⟩ : ∃ cs, cs = (ints l).toArray := ⟨_, rfl⟩
  rw [← hcs]
  have HC := Lib.hid hcs
  clear hcs
  go_enter Tryd.func17, Tryd.ntmps17
  go_wp2
  go_loopg [9] fs.length (fun g i wr => ∃ k : Nat, Hid (g = fs.length - k) ∧ k ≤ fs.length ∧ i = .int .i64 k ∧ Hid (Rw wr w.heap.size (ints (zap l (fs.take k))).toArray 49) ∧ Hid (Below w.heap.size w wr))
  case atStart => exact ⟨0, Lib.hid rfl, Nat.zero_le _, rfl, Lib.hid (by rw [HC.out]; exact Rw.new _ _ _), Lib.hid ((Below.refl _ _).alloc (Nat.le_refl _) _)⟩
  case round =>
    obtain ⟨k, HK, hk, rfl, HR, HB⟩ := hrel
    by_cases hlt : k < fs.length
    · obtain ⟨b, off, c', hve, hcc, hb, hxx⟩ := HV.out.full (by rw [ints_len, nums'_len]; omega)
      obtain rfl : A = some ⟨b, off, none⟩ := by injection hve
      obtain ⟨f, hfd⟩ : ∃ f, f = fs[k] := ⟨_, rfl⟩
      have hf18 : f < 18 := by rw [hfd]; exact HF.out _ (List.getElem_mem hlt)
      have cj : wr.cell? ⟨b, off + k, none⟩ = some (.int .i64 (f : Int)) := by
        rw [hfd]
        exact (HB.out.cell (p := ⟨b, off + k, none⟩) hb).trans (hxx k _ (nums'_at fs k hlt))
      obtain ⟨x, cx⟩ : ∃ x, wr.cell? ⟨w.heap.size, f, none⟩ = some (.int .i64 x) := ⟨_, by rw [HR.out.cell f, arr_at _ f (by rw [zap_len, HL.out]; exact hf18)]⟩
      have fx := HR.out.fr f
      have HFD := Lib.hid hfd
      clear hve hcc hxx hfd
      go_wp2
      go_roundg (fs.length - (k + 1))
      case measure => have := HK.out; omega
      case rel =>
        refine ⟨k + 1, Lib.hid rfl, by omega, by go_num, Lib.hid ?_, Lib.hid (below_setCell HB.out (Nat.le_refl _) _)⟩
        rw [taken_snoc fs k hlt, zap_snoc, ← HFD.out]
        exact HR.out.put f 0
    · obtain rfl : k = fs.length := by omega
      have HR2 := HR.out
      rw [List.take_length] at HR2
      obtain ⟨z, hz⟩ : ∃ z, z = zap l fs := ⟨_, rfl⟩
      rw [← hz] at HR2
      have HZ := Lib.hid hz
      have he := eq49 (a := z) (b := zeros) (by rw [hz, zap_len, HL.out]) rfl (by rw [hz]; exact zap_fits HI.out fs) zeros_fit
      obtain ⟨ds, hds⟩ : ∃ ds, ds = (ints z).toArray := ⟨_, rfl⟩
      have hdz : ds.size = 18 := by rw [hds, hz]; simp [ints_len, zap_len, HL.out]
      rw [← hds] at HR2
      simp only [arrV] at he
      rw [← hds] at he
      simp only [ints, zeros, List.map_cons, List.map_nil] at he
      obtain ⟨q, hq⟩ : ∃ q, q = decide (z = zeros) := ⟨_, rfl⟩
      have HQ := Lib.hid hq
      change ∀ w, _ = Result.ok (decide (z = zeros)) w at he
      rw [← hq] at he
      have HR2 := Lib.hid HR2
      have hdz := Lib.hid hdz
      clear hds hz hq
      go_wp2_with (refine wpList_load_row rfl 49 (.tmp 2) rfl w.heap.size rfl 49 ds (0, 0) _ HR2.out Tryd.underlying49 rfl (by rw [hdz.out]; kernel_rfl) ?_)
      go_ret
      exact ⟨by rw [← HZ.out, ← HQ.out]; rfl, HB.out⟩
end Go.Proofs.YthombepmlepgfaaDoor
