/-
  What the document's own Get answers.
-/
import Derived.Test.YthombepmlepgfaaDoorMgea
import Derived.Test.YthombepmlepgfaaDoorMgeb
import Derived.Test.YthombepmlepgfaaDoorMgec
import Derived.Test.YthombepmlepgfaaDoorMged
namespace Go.Proofs.YthombepmlepgfaaDoor
open Go.RowKit

theorem mget9_any (s : ByteArray) (w : World) (hs : s.size ≤ 20000) : Calls Tryd.prog 13 #[.string s] w (GetR (rget s.data.toList) w) := by
  by_cases he : (gets [] s.data.toList).1 = 0
  · have hc := gets_count s.size s.data.toList [] (by simp)
    obtain ⟨G, hG⟩ : ∃ G, G = gets [] s.data.toList := ⟨_, rfl⟩
    rw [← hG] at he hc
    obtain ⟨E, ns⟩ := G
    simp only at he hc
    subst he
    match ns with
    | [] => exact mget9_nil s w hs hG.symm
    | kn :: rest =>
      have hr : rest.length ≤ 20000 := by simp at hc; omega
      cases hk : kindF (kn : Int) with
      | none => exact mget9_kind s w hs kn rest hG.symm hr hk
      | some fs =>
        by_cases hl : rest.length = fs.length
        · rcases kind_some hk with ⟨h, rfl⟩ | ⟨h, rfl⟩ | ⟨h, rfl⟩ | ⟨h, rfl⟩ | ⟨h, rfl⟩ | ⟨h, rfl⟩ | ⟨h, rfl⟩ | ⟨h, rfl⟩ | ⟨h, rfl⟩ | ⟨h, rfl⟩ | ⟨h, rfl⟩
          · obtain rfl : kn = 1 := by omega
            match rest, hl with
            | [n0, n1, n2], _ => exact mget9_1 s w hs n0 n1 n2 hG.symm
          · obtain rfl : kn = 2 := by omega
            match rest, hl with
            | [], _ => exact mget9_2 s w hs hG.symm
          · obtain rfl : kn = 3 := by omega
            match rest, hl with
            | [], _ => exact mget9_3 s w hs hG.symm
          · obtain rfl : kn = 4 := by omega
            match rest, hl with
            | [n0], _ => exact mget9_4 s w hs n0 hG.symm
          · obtain rfl : kn = 5 := by omega
            match rest, hl with
            | [n0], _ => exact mget9_5 s w hs n0 hG.symm
          · obtain rfl : kn = 6 := by omega
            match rest, hl with
            | [n0], _ => exact mget9_6 s w hs n0 hG.symm
          · obtain rfl : kn = 7 := by omega
            match rest, hl with
            | [n0], _ => exact mget9_7 s w hs n0 hG.symm
          · obtain rfl : kn = 8 := by omega
            match rest, hl with
            | [n0, n1], _ => exact mget9_8 s w hs n0 n1 hG.symm
          · obtain rfl : kn = 9 := by omega
            match rest, hl with
            | [n0], _ => exact mget9_9 s w hs n0 hG.symm
          · obtain rfl : kn = 10 := by omega
            match rest, hl with
            | [], _ => exact mget9_10 s w hs hG.symm
          · obtain rfl : kn = 11 := by omega
            match rest, hl with
            | [n0, n1, n2, n3, n4, n5, n6, n7, n8, n9, n10, n11], _ => exact mget9_11 s w hs n0 n1 n2 n3 n4 n5 n6 n7 n8 n9 n10 n11 hG.symm
        · exact mget9_len s w hs kn rest fs hG.symm hr hk hl
  · exact mget9_err s w hs he
end Go.Proofs.YthombepmlepgfaaDoor
