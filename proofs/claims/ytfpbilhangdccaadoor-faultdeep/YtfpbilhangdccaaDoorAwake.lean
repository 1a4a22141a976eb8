/-
  The laws' own first line, awake: the answers that the document fixes are given.
-/
import Derived.Test.YtfpbilhangdccaaDoorLists
namespace Go.Proofs.YtfpbilhangdccaaDoor
open Go.RowKit

theorem lit2 (w : World) (e : TypeId) (a b : Value) : Vals (w.alloc (.cells #[a, b] e)) (.slice (some ⟨w.heap.size, 0, none⟩) 2 2) [a, b] :=
  .inr ⟨w.heap.size, 0, 2, rfl, Nat.le_refl _, by simp, fun k u hu => by
    match k, hu with
    | 0, hu => simpa using hu
    | 1, hu => simpa using hu⟩
theorem lit1 (w : World) (e : TypeId) (a : Value) : Vals (w.alloc (.cells #[a] e)) (.slice (some ⟨w.heap.size, 0, none⟩) 1 1) [a] :=
  .inr ⟨w.heap.size, 0, 1, rfl, Nat.le_refl _, by simp, fun k u hu => by
    match k, hu with
    | 0, hu => simpa using hu⟩
theorem lit3 (w : World) (e : TypeId) (a b c : Value) : Vals (w.alloc (.cells #[a, b, c] e)) (.slice (some ⟨w.heap.size, 0, none⟩) 3 3) [a, b, c] :=
  .inr ⟨w.heap.size, 0, 3, rfl, Nat.le_refl _, by simp, fun k u hu => by
    match k, hu with
    | 0, hu => simpa using hu
    | 1, hu => simpa using hu
    | 2, hu => simpa using hu⟩

set_option maxHeartbeats 2000000 in
theorem awake_yes (w : World) (hg : Gl w) : Calls Tryd.prog 8 #[] w fun e w' => e = .returned (.bool true) ∧ Below w.heap.size w w' := by
  have HG := Lib.hid hg
  clear hg
  go_enter Tryd.func8, Tryd.ntmps8
  go_wp2_with fail
  refine (new_err 3 _ _ rfl).mono ?_
  rintro e w1 ⟨o1, v1, rfl, hc1, hb1⟩
  have HC1 := Lib.hid hc1
  clear hc1
  go_wp2_with fail
  refine (wrap_err o1 3 _ _ _ _ HC1.out).mono ?_
  rintro e w2 ⟨o, v, rfl, hc, hb2'⟩
  obtain ⟨T, p, rfl, _⟩ := hc.form
  have HC := Lib.hid hc
  have hb2 : Below w.heap.size w w2 := hb1.trans (hb2'.mono hb1.size)
  clear hc hb1 hb2' HC1
  go_wp2_with fail
  refine (code_err o 3 _ _ _ (HG.out.under hb2) HC.out).mono ?_
  rintro e w3 ⟨rfl, hb⟩
  have HC3 := Lib.hid (HC.out.under hb)
  have hb3 : Below w.heap.size w w3 := hb2.trans (hb.mono hb2.size)
  clear hb HC hb2
  go_wp2_with fail
  refine (is_err o 3 _ _ _ _ (HG.out.under hb3) HC3.out).mono ?_
  rintro e w4 ⟨rfl, hb⟩
  have HC4 := Lib.hid (HC3.out.under hb)
  have hb4 : Below w.heap.size w w4 := hb3.trans (hb.mono hb3.size)
  clear hb HC3 hb3
  go_wp2_with fail
  refine (is_err o 3 _ _ _ _ (HG.out.under hb4) HC4.out).mono ?_
  rintro e w5 ⟨rfl, hb⟩
  have HC5 := Lib.hid (HC4.out.under hb)
  have hb5 : Below w.heap.size w w5 := hb4.trans (hb.mono hb4.size)
  clear hb HC4 hb4
  go_wp2_with fail
  refine (places_err o 3 _ _ _ (by simp) (HG.out.under hb5) HC5.out).mono ?_
  rintro e w6 ⟨lv, rfl, hv, hb⟩
  have HV := Lib.hid hv
  have hb6 : Below w.heap.size w w6 := hb5.trans (hb.mono hb5.size)
  clear hb hv HC5 hb5
  go_wp2_with fail
  refine (same_yes [_, _] _ _ _ (by simp) (HV.out.under ((Below.refl _ _).alloc (Nat.le_refl _) _)) (lit2 _ _ _ _)).mono ?_
  rintro e w7 ⟨rfl, hb⟩
  have hb7 : Below w.heap.size w w7 := (hb6.alloc hb6.size _).trans (hb.mono (by have := hb6.size; simp; omega))
  clear hb HV hb6
  go_wp2_with fail
  refine (new_ok _ _).mono ?_
  rintro e w8 ⟨rfl, rfl⟩
  go_wp2_with fail
  refine (code_nil _).mono ?_
  rintro e w8 ⟨rfl, rfl⟩
  go_wp2
  go_ret
  exact ⟨rfl, hb7⟩
end Go.Proofs.YtfpbilhangdccaaDoor
