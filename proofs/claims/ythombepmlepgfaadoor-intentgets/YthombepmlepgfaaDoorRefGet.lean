/-
  What the document's own Get answers.
-/
import Derived.Test.YthombepmlepgfaaDoorRef
namespace Go.Proofs.YthombepmlepgfaaDoor
open Go.RowKit

/-- What bytes at..j.. are, up to the end's. -/
def part (l : List UInt8) (j m : Nat) : Nat := val ((l.drop j).take m)
theorem part_zero (l : List UInt8) (j : Nat) : part l j 0 = 0 := by simp [part, val]
theorem part_succ (s : ByteArray) (j m : Nat) (h : j < s.size) : part s.data.toList j (m + 1) = 128 * part s.data.toList (j + 1) m + s[j].toNat % 128 := by
  unfold part
  rw [drop_cons s j h, List.take_succ_cons, val]
  omega
theorem part_lt (l : List UInt8) (j m : Nat) (h : m ≤ 9) : part l j m < 9223372036854775808 := val_nine (by rw [List.length_take]; omega)
theorem lead_up (s : ByteArray) (a k : Nat) (h : k < s.size) (hak : a ≤ k) (h9 : k - a < 9) (hL : lead 9 (s.data.toList.drop a) = (k - a) + lead (9 - (k - a)) (s.data.toList.drop k)) (hc : 128 ≤ s[k].toNat) : lead 9 (s.data.toList.drop a) = (k + 1 - a) + lead (9 - (k + 1 - a)) (s.data.toList.drop (k + 1)) := by
  rw [hL, drop_cons s k h, show 9 - (k - a) = (9 - (k + 1 - a)) + 1 by omega, lead, if_pos hc]; omega
theorem lead_low (s : ByteArray) (a k : Nat) (h : k < s.size) (h9 : k - a < 9) (hL : lead 9 (s.data.toList.drop a) = (k - a) + lead (9 - (k - a)) (s.data.toList.drop k)) (hc : s[k].toNat < 128) : lead 9 (s.data.toList.drop a) = k - a := by
  rw [hL, drop_cons s k h, show 9 - (k - a) = (9 - (k - a) - 1) + 1 by omega, lead, if_neg (by omega)]; omega
theorem lead_out (s : ByteArray) (a k : Nat) (h : k = s.size) (hL : lead 9 (s.data.toList.drop a) = (k - a) + lead (9 - (k - a)) (s.data.toList.drop k)) : lead 9 (s.data.toList.drop a) = k - a := by
  have e1 : s.data.toList.drop k = [] := List.drop_eq_nil_of_le (by rw [h]; simp)
  have e2 : lead (9 - (k - a)) [] = 0 := by cases 9 - (k - a) <;> rfl
  rw [hL, e1, e2]; omega
theorem lead_full (s : ByteArray) (a k : Nat) (h : k - a = 9) (hL : lead 9 (s.data.toList.drop a) = (k - a) + lead (9 - (k - a)) (s.data.toList.drop k)) : lead 9 (s.data.toList.drop a) = k - a := by
  rw [hL, h]; simp [lead]
theorem firstE_full (s : ByteArray) (a k : Nat) (h : k - a = 9) (hL : lead 9 (s.data.toList.drop a) = k - a) : firstE (s.data.toList.drop a) = 5 := by
  unfold firstE; rw [hL, if_pos h]
theorem firstE_out (s : ByteArray) (a k : Nat) (h : k - a < 9) (hk : k = s.size) (hL : lead 9 (s.data.toList.drop a) = k - a) : firstE (s.data.toList.drop a) = 4 := by
  unfold firstE; rw [hL, if_neg (by omega), if_pos (by rw [List.length_drop, hk]; simp)]
theorem drop_at (s : ByteArray) (a k : Nat) (hk : k < s.size) (hak : a ≤ k) : (s.data.toList.drop a)[k - a]? = some s[k] := by
  rw [List.getElem?_drop, show a + (k - a) = k by omega, List.getElem?_eq_getElem (by simpa using hk)]; rfl
theorem firstE_long (s : ByteArray) (a k : Nat) (h : k - a < 9) (hk : k < s.size) (hak : a < k) (hL : lead 9 (s.data.toList.drop a) = k - a) (hc : s[k].toNat = 0) : firstE (s.data.toList.drop a) = 5 := by
  unfold firstE
  rw [hL, if_neg (by omega), if_neg (by rw [List.length_drop]; simp; omega), if_pos ⟨by omega, by rw [drop_at s a k hk (by omega)]; exact congrArg some (UInt8.toNat_inj.1 (by simpa using hc))⟩]
theorem firstE_fine (s : ByteArray) (a k : Nat) (h : k - a < 9) (hk : k < s.size) (hak : a ≤ k) (hL : lead 9 (s.data.toList.drop a) = k - a) (hc : ¬ (a < k ∧ s[k].toNat = 0)) : firstE (s.data.toList.drop a) = 0 := by
  unfold firstE
  rw [hL, if_neg (by omega), if_neg (by rw [List.length_drop]; simp; omega), if_neg]
  rintro ⟨h1, h2⟩
  rw [drop_at s a k hk hak] at h2
  injection h2 with h2
  exact hc ⟨by omega, by rw [h2]; rfl⟩

set_option maxRecDepth 100000 in
set_option maxHeartbeats 8000000 in
theorem mget_any (s : ByteArray) (w : World) (hs : s.size ≤ 20000) :
    Calls Tryd.prog 14 #[.string s] w (GotL (gets [] s.data.toList) w) := by
  obtain ⟨i3, hi3, hz30, hz31, hz32⟩ := info_parts Tinfo3
  go_enter Tryd.func14, Tryd.ntmps14
  go_wp2
  go_loopg [4, 5] s.size (fun g l x wr => ∃ (a L : Nat) (acc : List Nat), Hid (g = s.size - a) ∧ x = .int .i64 (a : Int) ∧ a ≤ s.size ∧ L ≤ s.size ∧ Hid (L ≤ a) ∧ Hid (acc.length = L) ∧ Hid (gets acc (s.data.toList.drop a) = gets [] s.data.toList) ∧ Hid (wr.ownsRow w.heap.size 3 1 l L (nums acc)) ∧ Hid (Below w.heap.size w wr))
  case atStart => exact ⟨0, 0, [], Lib.hid rfl, rfl, Nat.zero_le _, by omega, Lib.hid (by omega), Lib.hid rfl, Lib.hid rfl, Lib.hid (World.ownsRow_made w #[] 0 (Nat.le_refl _) (Nat.zero_le _) rfl), Lib.hid ((Below.refl _ _).alloc (Nat.le_refl _) _)⟩
  case round =>
    obtain ⟨a, L, acc, HG, rfl, ha, hL, HS, HA, HE, HOW, HBL⟩ := hrel
    by_cases hlt : a < s.size
    · have HNE : Hid (s.data.toList.drop a ≠ []) := Lib.hid (by rw [drop_cons s a hlt]; exact List.cons_ne_nil _ _)
      go_wp2
      go_loop [6] (fun y => ∃ k : Nat, a ≤ k ∧ k ≤ s.size ∧ k ≤ a + 9 ∧ y = .int .i64 (k : Int) ∧ Hid (lead 9 (s.data.toList.drop a) = (k - a) + lead (9 - (k - a)) (s.data.toList.drop k))) (fun y => s.size - (intOf y).toNat)
      case atStart => exact ⟨a, by omega, by omega, by omega, rfl, Lib.hid (by simp)⟩
      case round =>
        obtain ⟨k, hk1, hk2, hk3, rfl, HL⟩ := hrel
        by_cases h9 : k = a + 9
        · have HR : Hid (gets [] s.data.toList = (5, [])) := Lib.hid (by
            have e1 := lead_full s a k (by omega) HL.out
            have e2 := firstE_full s a k (by omega) e1
            rw [← HE.out, gets_err HNE.out (by omega), e2])
          clear HL
          subst h9
          by_cases hk : a + 9 < s.size
          · by_cases hc : 128 ≤ s[a + 9].toNat
            · go_wp2
              go_ret2
              refine ⟨.slice none 0 0, ?_, ?_, HBL.out⟩
              · rw [HR.out]; rfl
              · rw [HR.out]; exact World.ownsRow_nil _ _ _ _
            · go_wp2
              go_ret2
              refine ⟨.slice none 0 0, ?_, ?_, HBL.out⟩
              · rw [HR.out]; rfl
              · rw [HR.out]; exact World.ownsRow_nil _ _ _ _
          · go_wp2
            go_ret2
            refine ⟨.slice none 0 0, ?_, ?_, HBL.out⟩
            · rw [HR.out]; rfl
            · rw [HR.out]; exact World.ownsRow_nil _ _ _ _
        · by_cases hk : k < s.size
          · by_cases hc : 128 ≤ s[k].toNat
            · have HL2 := Lib.hid (lead_up s a k hk hk1 (by omega) HL.out hc)
              go_wp2
              go_round
              case rel => exact ⟨k + 1, by omega, by omega, by omega, by go_num, HL2⟩
              case measure => simp [intOf]; omega
            · have HL2 := Lib.hid (lead_low s a k hk (by omega) HL.out (by omega))
              by_cases hz : a < k ∧ s[k].toNat = 0
              · obtain ⟨hz1, hz2⟩ := hz
                have HR : Hid (gets [] s.data.toList = (5, [])) := Lib.hid (by
                  have e2 := firstE_long s a k (by omega) hk hz1 HL2.out hz2
                  rw [← HE.out, gets_err HNE.out (by omega), e2])
                go_wp2
                go_ret2
                refine ⟨.slice none 0 0, ?_, ?_, HBL.out⟩
                · rw [HR.out]; rfl
                · rw [HR.out]; exact World.ownsRow_nil _ _ _ _
              · have HF := Lib.hid (firstE_fine s a k (by omega) hk hk1 HL2.out hz)
                have HZ : (decide (a < k) = false) ∨ (a < k ∧ 0 < s[k].toNat) := by
                  by_cases h : a < k
                  · exact .inr ⟨h, by omega⟩
                  · exact .inl (by simpa using h)
                clear hz HL
                rcases HZ with hd | ⟨hd, hd2⟩
                all_goals
                  go_wp2
                  go_loop [7, 8] (fun y z => ∃ (j N : Nat) (q : Int), a ≤ j ∧ j ≤ k + 1 ∧ N ≤ 9223372036854775807 ∧ Hid (q = (j : Int) - 1) ∧ z = .int .i64 q ∧ y = .int .i64 (N : Int) ∧ Hid (N = part s.data.toList j (k + 1 - j))) (fun _ z => (intOf z + 1).toNat)
                  case atStart => exact ⟨k + 1, 0, (k : Int), by omega, by omega, by omega, Lib.hid (by omega), rfl, rfl, Lib.hid (by rw [Nat.sub_self, part_zero])⟩
                  case round =>
                    obtain ⟨j, N, q, hj1, hj2, hN, HQ, rfl, rfl, HN⟩ := hrel
                    by_cases hja : a < j
                    · obtain ⟨i, rfl⟩ : ∃ i, j = i + 1 := ⟨j - 1, by omega⟩
                      obtain rfl : q = (i : Int) := by have := HQ.out; omega
                      have hi : i < s.size := by omega
                      have HP : Hid (part s.data.toList i (k + 1 - i) = 128 * N + s[i].toNat % 128) := Lib.hid (by
                        have := part_succ s i (k + 1 - (i + 1)) hi
                        rw [← HN.out, show k + 1 - (i + 1) + 1 = k + 1 - i by omega] at this
                        exact this)
                      have hNb : 128 * N + s[i].toNat % 128 < 9223372036854775808 := by rw [← HP.out]; exact part_lt _ _ _ (by omega)
                      go_wp2
                      go_round
                      case rel => exact ⟨i, 128 * N + s[i].toNat % 128, (i : Int) - 1, by omega, by omega, by omega, Lib.hid rfl, by go_num, by go_num, Lib.hid HP.out.symm⟩
                      case measure => simp [intOf]
                    · obtain rfl : j = a := by omega
                      have hqa : q < (j : Int) := by have := HQ.out; omega
                      have HNN : Hid (firstN (s.data.toList.drop j) = N) := Lib.hid (by
                        rw [HN.out]
                        unfold firstN part
                        rw [HL2.out, show k - j + 1 = k + 1 - j by omega])
                      have hLs : L < 20001 := by omega
                      go_wp2_with (at_builtin; go_must (refine wpList_append_own _ rfl (.tmp 64) (.tmp 66) 40 rfl w.heap.size 3 i3 (.int .i64 0) 1 8 Tryd.underlying40 hi3 hz30 hz31 hz32 rfl (by decide) _ L (nums acc) rfl (HOW.out.alloc _) ⟨wr.heap.size, 0, none⟩ 1 1 [.int .i64 (N : Int)] rfl rfl (cell_one_new _ _ _) (by simp [Value.oneCell']) (by unfold maxLen; omega) (by omega) (by have := HBL.out.size; simp; omega) ?_); intro v3 w3 hown3 hgr3 _; have HOW3 := Lib.hid hown3; have HB3 := Lib.hid (below_grown (HBL.out.alloc (by have := HBL.out.size; omega) _) hgr3 (fun k hk => (own_lt HOW.out k hk).1) (Nat.le_refl _)); clear hown3 hgr3)
                      go_roundg (s.size - (k + 1))
                      case measure => have := HG.out; omega
                      case rel =>
                        refine ⟨k + 1, L + 1, acc ++ [N], Lib.hid rfl, by go_num, by omega, by have := HS.out; omega, Lib.hid (by have := HS.out; omega), Lib.hid (by simp [HA.out]), Lib.hid ?_, Lib.hid ?_, HB3⟩
                        · rw [← HE.out, gets_ok HNE.out HF.out, HNN.out, HL2.out, List.drop_drop, show j + (k - j + 1) = k + 1 by omega]
                        · rw [nums_snoc]; exact HOW3.out
          · have HR : Hid (gets [] s.data.toList = (4, [])) := Lib.hid (by
              have e1 := lead_out s a k (by omega) HL.out
              have e2 := firstE_out s a k (by omega) (by omega) e1
              rw [← HE.out, gets_err HNE.out (by omega), e2])
            obtain rfl : k = s.size := by omega
            go_wp2
            go_ret2
            refine ⟨.slice none 0 0, ?_, ?_, HBL.out⟩
            · rw [HR.out]; rfl
            · rw [HR.out]; exact World.ownsRow_nil _ _ _ _
    · have HR : Hid (gets [] s.data.toList = (0, acc)) := Lib.hid (by
        rw [← HE.out, List.drop_eq_nil_of_le (by simp; omega), gets_nil])
      go_wp2
      go_ret2
      refine ⟨u4, ?_, ?_, HBL.out⟩
      · rw [HR.out]; rfl
      · rw [HR.out, HA.out]; exact HOW.out
end Go.Proofs.YthombepmlepgfaaDoor
