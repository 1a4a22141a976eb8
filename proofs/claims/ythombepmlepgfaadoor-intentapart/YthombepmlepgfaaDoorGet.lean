/-
  What package code's Get answers.
-/
import Derived.Test.YthombepmlepgfaaDoorPut
namespace Go.Proofs.YthombepmlepgfaaDoor
open Go.RowKit

/-- Numbers as values. -/
def cast (n : Nat) : Int := (n : Int)
def nums (ns : List Nat) : List Value := ints (ns.map cast)
theorem nums_len (ns : List Nat) : (nums ns).length = ns.length := by simp [nums, ints]
theorem nums_snoc (ns : List Nat) (n : Nat) : nums (ns ++ [n]) = nums ns ++ [.int .i64 (n : Int)] := by simp [nums, ints, cast]
/-- A new row of numbers, and an error. -/
def GotL (r : Nat × List Nat) (w : World) (e : Ending) (w' : World) : Prop := ∃ u, e = .returned (.tuple #[u, .int .i64 (r.1 : Int)]) ∧ w'.ownsRow w.heap.size 3 1 u r.2.length (nums r.2) ∧ Below w.heap.size w w'

theorem extract_list (t : ByteArray) (k : Nat) : (t.extract k t.size).data.toList = t.data.toList.drop k := by
  rw [ByteArray.data_extract, Array.toList_extract, List.extract]
  simp [List.take_of_length_le]
theorem extract_size (t : ByteArray) (k : Nat) : (t.extract k t.size).size = t.size - k := by simp

set_option maxRecDepth 100000 in
set_option maxHeartbeats 1000000 in
theorem get_any (s : ByteArray) (w : World) (hs : s.size ≤ 20000) :
    Calls Tryd.prog 25 #[.string s] w (GotL (gets [] s.data.toList) w) := by
  obtain ⟨i3, hi3, hz30, hz31, hz32⟩ := info_parts Tinfo3
  go_enter Tryd.func25, Tryd.ntmps25
  go_wp2
  go_loopg [0, 4] s.size (fun g b l wr => ∃ (t : ByteArray) (L : Nat) (acc : List Nat), Hid (g = t.size) ∧ b = .string t ∧ t.size ≤ s.size ∧ L ≤ s.size ∧ Hid (L + t.size ≤ s.size) ∧ Hid (acc.length = L) ∧ Hid (gets acc t.data.toList = gets [] s.data.toList) ∧ Hid (wr.ownsRow w.heap.size 3 1 l L (nums acc)) ∧ Hid (Below w.heap.size w wr))
  case atStart => exact ⟨s, 0, [], Lib.hid rfl, rfl, Nat.le_refl _, by omega, Lib.hid (by omega), Lib.hid rfl, Lib.hid rfl, Lib.hid (World.ownsRow_nil _ _ _ _), Lib.hid (Below.refl _ _)⟩
  case round =>
    obtain ⟨t, L, acc, HG, rfl, ht, hL, HS, HA, HE, HOW, HBL⟩ := hrel
    by_cases hlt : 0 < t.size
    · have hne : t.data.toList ≠ [] := by intro h; have := congrArg List.length h; rw [List.length_nil, Array.length_toList] at this; exact absurd this (by show t.size ≠ 0; omega)
      have HNE := Lib.hid hne
      clear hne
      by_cases he : firstE t.data.toList = 0
      · have HF := Lib.hid he
        obtain ⟨h1, h2, _⟩ := first_ok he
        have h2' : lead 9 t.data.toList < t.size := by simpa using h2
        have HC : Hid (∀ W, Calls Tryd.prog 32 #[.string t] W fun e w' => e = .returned (.tuple #[.int .i64 (firstN t.data.toList : Int), .int .i64 ((lead 9 t.data.toList + 1 : Nat) : Int), .int .i64 0]) ∧ W = w') := Lib.hid (fun W => first_yes t W (by unfold maxLen; omega) he)
        obtain ⟨n, hn⟩ : ∃ n, n = firstN t.data.toList := ⟨_, rfl⟩
        obtain ⟨k, hk⟩ : ∃ k, k = lead 9 t.data.toList + 1 := ⟨_, rfl⟩
        rw [← hn, ← hk] at HC
        have hk1 : 0 < k := by omega
        have hk2 : k ≤ t.size := by omega
        have HN := Lib.hid hn
        have HK := Lib.hid hk
        clear he h1 h2 h2' hn hk
        go_wp2_with fail
        refine (HC.out _).mono ?_
        rintro e w' ⟨rfl, rfl⟩
        go_wp2_with (at_builtin; go_must (refine wpList_append_own _ rfl (.tmp 20) (.tmp 22) 40 rfl w.heap.size 3 i3 (.int .i64 0) 1 8 Tryd.underlying40 hi3 hz30 hz31 hz32 rfl (by decide) _ L (nums acc) rfl (HOW.out.alloc _) ⟨wr.heap.size, 0, none⟩ 1 1 [.int .i64 (n : Int)] rfl rfl (cell_one_new _ _ _) (by simp [Value.oneCell']) (by unfold maxLen; omega) (by omega) (by have := HBL.out.size; simp; omega) ?_); intro v3 w3 hown3 hgr3 _; have HOW3 := Lib.hid hown3; have HB3 := Lib.hid (below_grown (HBL.out.alloc (by have := HBL.out.size; omega) _) hgr3 (fun k hk => (own_lt HOW.out k hk).1) (Nat.le_refl _)); clear hown3 hgr3)
        go_roundg (t.size - k)
        case measure => have := HG.out; omega
        case rel =>
          refine ⟨t.extract k t.size, L + 1, acc ++ [n], Lib.hid (by simp), rfl, by simp; omega, by have := HS.out; omega, Lib.hid (by simp; have := HS.out; omega), Lib.hid (by simp [HA.out]), Lib.hid ?_, Lib.hid ?_, HB3⟩
          · rw [← HE.out, gets_ok HNE.out HF.out, extract_list, HN.out, HK.out]
          · rw [nums_snoc]; exact HOW3.out
      · have HC : Hid (∀ W, Calls Tryd.prog 32 #[.string t] W fun e w' => e = .returned (.tuple #[.int .i64 0, .int .i64 0, .int .i64 (firstE t.data.toList : Int)]) ∧ W = w') := Lib.hid (fun W => first_no t W (by unfold maxLen; omega) he)
        have HR : Hid (gets [] s.data.toList = (firstE t.data.toList, [])) := Lib.hid (by rw [← HE.out, gets_err HNE.out he])
        obtain ⟨E, hE⟩ : ∃ E, E = firstE t.data.toList := ⟨_, rfl⟩
        rw [← hE] at he HC HR
        clear hE
        go_wp2_with fail
        refine (HC.out _).mono ?_
        rintro e w' ⟨rfl, rfl⟩
        go_wp2
        go_ret2
        refine ⟨.slice none 0 0, ?_, ?_, HBL.out⟩
        · rw [HR.out]; rfl
        · rw [HR.out]; exact World.ownsRow_nil _ _ _ _
    · have HR : Hid (gets [] s.data.toList = (0, acc)) := Lib.hid (by
        have h0 : t.data.toList = [] := List.eq_nil_of_length_eq_zero (by rw [Array.length_toList]; show t.size = 0; omega)
        rw [← HE.out, h0, gets_nil])
      go_wp2
      go_ret2
      refine ⟨u4, ?_, ?_, HBL.out⟩
      · rw [HR.out]; rfl
      · rw [HR.out, HA.out]; exact HOW.out
end Go.Proofs.YthombepmlepgfaaDoor
