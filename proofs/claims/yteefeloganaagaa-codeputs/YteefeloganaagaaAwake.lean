/-
  Layer 8's awake: answers that the document fixes.
-/
import Derived.Test.YteefeloganaagaaRefGet
namespace Go.Proofs.Yteefeloganaagaa
open Go.RowKit

theorem vals_new (w : World) (xs : List Int) (t : TypeId) : Vals (w.alloc (.cells (ints xs).toArray t)) (.slice (some ⟨w.heap.size, 0, none⟩) xs.length xs.length) (ints xs) := by
  refine .inr ⟨⟨w.heap.size, 0, none⟩, xs.length, by rw [ints_len], by rw [ints_len]; exact Nat.le_refl _, fun _ => by simp, fun k u hu => ?_⟩
  have hadd : (⟨w.heap.size, 0, none⟩ : Addr).add k = ⟨w.heap.size, k, none⟩ := by unfold Addr.add; split <;> simp_all
  rw [hadd, cell_of_row _ w.heap.size k (ints xs).toArray t (0, 0) (by simpa using Go.heap_alloc_new w _)]
  simpa using hu
theorem enc5 : enc 5 = [5] := by rw [enc_low (by omega)]; rfl
theorem enc300 : enc 300 = [172, 2] := by rw [enc_high (by omega), enc_low (by omega)]; rfl
theorem encs2 : encs [5, 300] = [5, 172, 2] := by simp [encs, enc5, enc300]
theorem put_two (w : World) (t : TypeId) : Calls Try.prog 10 #[.slice (some ⟨w.heap.size, 0, none⟩) 2 2] (w.alloc (.cells #[.int .i64 5, .int .i64 300] t)) fun e w' => e = .returned (.tuple #[.string ⟨#[5, 172, 2]⟩, .bool true]) ∧ Below w.heap.size w w' := by
  have h := put_any [5, 300] _ _ (by simp) (by intro x hx; simp at hx; unfold Fits; omega) (vals_new w [5, 300] t)
  refine h.mono ?_
  rintro e w' ⟨he, hb⟩
  have e1 : putS [5, 300] = ⟨#[5, 172, 2]⟩ := by
    unfold putS
    rw [if_pos (by decide), show nats [5, 300] = [5, 300] from rfl, encs2]
  rw [he, e1]
  exact ⟨rfl, ((Below.refl w.heap.size w).alloc (Nat.le_refl _) _).trans (hb.mono (by simp))⟩
theorem put_neg (w : World) (t : TypeId) : Calls Try.prog 10 #[.slice (some ⟨w.heap.size, 0, none⟩) 2 2] (w.alloc (.cells #[.int .i64 5, .int .i64 (-1)] t)) fun e w' => e = .returned (.tuple #[.string ⟨#[]⟩, .bool false]) ∧ Below w.heap.size w w' := by
  have h := put_any [5, -1] _ _ (by simp) (by intro x hx; simp at hx; unfold Fits; omega) (vals_new w [5, -1] t)
  refine h.mono ?_
  rintro e w' ⟨he, hb⟩
  rw [he]
  exact ⟨rfl, ((Below.refl w.heap.size w).alloc (Nat.le_refl _) _).trans (hb.mono (by simp))⟩
theorem get_two (w : World) : Calls Try.prog 12 #[.string ⟨#[5, 172, 2]⟩] w fun e w' => ∃ u, e = .returned (.tuple #[u, .int .i64 0]) ∧ Vals w' u (ints [5, 300]) ∧ Below w.heap.size w w' := by
  have e1 : gets [] (⟨#[5, 172, 2]⟩ : ByteArray).data.toList = (0, [5, 300]) := by
    have := gets_back (ns := [5, 300]) (by intro n hn; simp at hn; omega)
    rw [encs2] at this
    exact this
  refine (get_any ⟨#[5, 172, 2]⟩ w (by simp [ByteArray.size])).mono ?_
  rintro e w' ⟨u, he, ho, hb⟩
  rw [e1] at he ho
  exact ⟨u, he, Vals.of_own ho, hb⟩
theorem get_bad (s : ByteArray) (E : Nat) (w : World) (hs : s.size ≤ 20000) (h0 : s.data.toList ≠ []) (hE : E ≠ 0) (h1 : firstE s.data.toList = E) : Calls Try.prog 12 #[.string s] w fun e w' => ∃ u, e = .returned (.tuple #[u, .int .i64 (E : Int)]) ∧ Below w.heap.size w w' := by
  have e1 : gets [] s.data.toList = (E, []) := by rw [gets_err h0 (by rw [h1]; exact hE), h1]
  refine (get_any s w hs).mono ?_
  rintro e w' ⟨u, he, ho, hb⟩
  rw [e1] at he
  exact ⟨u, he, hb⟩
theorem get_80_00 (w : World) : Calls Try.prog 12 #[.string ⟨#[128, 0]⟩] w fun e w' => ∃ u, e = .returned (.tuple #[u, .int .i64 5]) ∧ Below w.heap.size w w' := get_bad ⟨#[128, 0]⟩ 5 w (by simp [ByteArray.size]) (by simp) (by decide) (by decide)
theorem get_80 (w : World) : Calls Try.prog 12 #[.string ⟨#[128]⟩] w fun e w' => ∃ u, e = .returned (.tuple #[u, .int .i64 4]) ∧ Below w.heap.size w w' := get_bad ⟨#[128]⟩ 4 w (by simp [ByteArray.size]) (by simp) (by decide) (by decide)
theorem same_two (u : Value) (w : World) (t : TypeId) (h : Vals w u (ints [5, 300])) : Calls Try.prog 14 #[u, .slice (some ⟨w.heap.size, 0, none⟩) 2 2] (w.alloc (.cells #[.int .i64 5, .int .i64 300] t)) fun e w' => e = .returned (.bool true) ∧ Below w.heap.size w w' := by
  have hb0 := (Below.refl w.heap.size w).alloc (Nat.le_refl _) (.cells #[.int .i64 5, .int .i64 300] t)
  refine (same_any [5, 300] [5, 300] u _ _ (h.under hb0) (vals_new w [5, 300] t) (by simp)).mono ?_
  rintro e w' ⟨he, hb⟩
  rw [he]
  exact ⟨rfl, hb0.trans (hb.mono (by simp))⟩

set_option maxRecDepth 100000 in
set_option maxHeartbeats 2000000 in
theorem awake_yes (w : World) : Calls Try.prog 9 #[] w fun e w' => e = .returned (.bool true) ∧ Below w.heap.size w w' := by
  go_enter Try.func9, Try.ntmps9
  go_wp2_with fail
  refine (put_two w _).mono ?_
  rintro e w1 ⟨rfl, hb⟩
  have HB1 := Lib.hid hb
  clear hb
  go_wp2_with fail
  refine (put_neg w1 _).mono ?_
  rintro e w2 ⟨rfl, hb⟩
  have HB2 := Lib.hid (HB1.out.trans (hb.mono HB1.out.size))
  clear hb
  go_wp2_with fail
  refine (get_two w2).mono ?_
  rintro e w3 ⟨u, rfl, hu, hb⟩
  have HB3 := Lib.hid (HB2.out.trans (hb.mono HB2.out.size))
  have HU := Lib.hid hu
  clear hb hu
  go_wp2_with fail
  refine (get_80_00 w3).mono ?_
  rintro e w4 ⟨u4, rfl, hb⟩
  have HB4 := Lib.hid (HB3.out.trans (hb.mono HB3.out.size))
  have HU4 := Lib.hid (HU.out.under hb)
  clear hb HU
  go_wp2_with fail
  refine (get_80 w4).mono ?_
  rintro e w5 ⟨u5, rfl, hb⟩
  have HB5 := Lib.hid (HB4.out.trans (hb.mono HB4.out.size))
  have HU5 := Lib.hid (HU4.out.under hb)
  clear hb HU4
  go_wp2_with (go_at_call 14; refine (same_two u w5 _ HU5.out).mono ?_; rintro e w6 ⟨rfl, hb⟩; have HB6 := Lib.hid (HB5.out.trans (hb.mono HB5.out.size)); clear hb)
  go_ret
  exact ⟨rfl, HB6.out⟩
end Go.Proofs.Yteefeloganaagaa
