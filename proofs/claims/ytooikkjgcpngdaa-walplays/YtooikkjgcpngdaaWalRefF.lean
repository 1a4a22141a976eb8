/-
  The document's own log: Open.
-/
import Derived.Test.YtooikkjgcpngdaaWalRefC
import Derived.Test.YtooikkjgcpngdaaWalI
namespace Go.Proofs.Ytooikkjgcpngdaa
open Go.RowKit
open Fr (Rec secB valL lenV)

variable {P Q R V : Nat → Prop} {w w' : World} {B m g v : Nat} {fu : Fu} {s : Dk} {l : Lg} {lv : Value}

/-- The document's log, opened. -/
def OpenedR (w : World) (B : Nat) (R : Nat → Prop) (m g : Nat) (s' : Dk) (fu' : Fu) (l : Lg) (e : Ending) (w' : World) : Prop :=
  ∃ R' V' v lv, e = .returned (.tuple #[.pointer (some ⟨v, 0, none⟩), .int .i64 0]) ∧ DskR w' B R' m g s' fu' ∧ InvV w' B V' v m l lv ∧ (∀ k, R' k → ¬ V' k) ∧ (∀ k, R' k → R k ∨ w.heap.size ≤ k) ∧ (∀ k, V' k → w.heap.size ≤ k) ∧ Kept R w w'
/-- No log: a call of the disk failed. -/
def HaltedR (w : World) (B : Nat) (R : Nat → Prop) (m g : Nat) (s' : Dk) (fu' : Fu) (e : Ending) (w' : World) : Prop :=
  e = .returned (.tuple #[.pointer none, .int .i64 2]) ∧ ∃ R', DskR w' B R' m g s' fu' ∧ (∀ k, R' k → R k ∨ w.heap.size ≤ k) ∧ Kept R w w'
theorem InvV.fresh (w : World) (m : Nat) (hBw : B ≤ w.heap.size) : InvV (w.alloc (.cells #[.pointer (some ⟨m, 0, none⟩), .int .i64 0, .int .i64 0, .slice none 0 0, .bool false] 52)) B (fun k => k = w.heap.size) w.heap.size m ⟨0, 0, [], false⟩ (.slice none 0 0) :=
  ⟨heap_alloc_new w _, World.ownsRow_nil _ _ _ _, rfl, (fun k hk => by cases hk), (fun k hk => by have hk' : k = w.heap.size := hk; rw [hk']; exact ⟨hBw, by simp⟩), fun _ => rfl⟩
theorem InvV.put1 (h : InvV w B V v m l lv) (a : Nat) (x : Int) (hx : x = (a : Int)) : InvV (w.setCell ⟨v, 1, none⟩ (.int .i64 x)) B V v m { l with area := a } lv := by subst hx; exact h.set1 a
theorem InvV.put2 (h : InvV w B V v m l lv) (a : Nat) (x : Int) (hx : x = (a : Int)) : InvV (w.setCell ⟨v, 2, none⟩ (.int .i64 x)) B V v m { l with gen := a } lv := by subst hx; exact h.set2 a
theorem recs_end (now : List ByteArray) (base gen i : Nat) : recs now base gen 0 i = [] := rfl

/-- A list that grew by one, ahead of its store. -/
theorem invV_grown {w1 w3 : World} {acc : List ByteArray} {A G L g3 cap3 lc : Nat} {la : Option Addr} {p : ByteArray} (h : InvV w1 B V v m ⟨A, G, acc, false⟩ lv) (ho : w1.ownsRow B 9 1 (.slice la L lc) L (strs acc)) (hlv : lv = .slice la L lc)
    (hown : w3.ownsRow B 9 1 (.slice (some ⟨g3, 0, none⟩) (L + 1) cap3) (L + 1) (strs acc ++ [.string p])) (hgr : (w1.alloc (.cells #[.string p] 9)).grownBy w3 (Value.slice la L lc).ownBlock) (hor : (Value.slice la L lc).ownBlock = some g3 ∨ g3 = (w1.alloc (.cells #[.string p] 9)).heap.size) (hlt : g3 < w3.heap.size) (hL : L = acc.length) (hB : B ≤ w1.heap.size) :
    w3.cell? ⟨v, 3, none⟩ = some (.slice la L lc) ∧ w3.frozen? ⟨v, 3, none⟩ = false ∧ InvV (w3.setCell ⟨v, 3, none⟩ (.slice (some ⟨g3, 0, none⟩) (L + 1) cap3)) B (fun k => V k ∨ k = g3) v m ⟨A, G, acc ++ [p], false⟩ (.slice (some ⟨g3, 0, none⟩) (L + 1) cap3) := by
  have hsz := hgr.size
  simp at hsz
  have hv1 : (w1.alloc (.cells #[.string p] 9)).heap[v]? = w1.heap[v]? := Below.heap_alloc w1 _ v (h.lt v h.pv).2
  have hne : (Value.slice la L lc).ownBlock ≠ some v := fun e => by
    obtain ⟨cur, hc⟩ := own_type ho e
    exact ne_of_type hc h.hv (by decide) rfl
  have hv3 : w3.heap[v]? = w1.heap[v]? := (hgr.block v (by have := (h.lt v h.pv).2; simp; omega) (fun e => hne e.symm)).trans hv1
  have hb : w3.heap[v]? = some (.cells #[.pointer (some ⟨m, 0, none⟩), .int .i64 (A : Int), .int .i64 (G : Int), lv, .bool false] 52 (0, 0)) := hv3.trans h.hv
  have hge : B ≤ g3 := by
    rcases hor with h1 | h1
    · exact (h.lt g3 (h.pl g3 (by rw [hlv]; exact h1))).1
    · rw [h1]; simp; omega
  refine ⟨by rw [cell_of_row w3 v 3 _ _ _ hb, ← hlv]; rfl, by simp [World.frozen?, hb], ?_⟩
  have hnv : g3 ≠ v := fun e => by
    obtain ⟨cur, hc⟩ := own_type hown (k := g3) rfl
    exact ne_of_type hc hb (by decide) e
  refine ⟨?_, ?_, .inl h.pv, fun k hk => .inr (by simpa [Value.ownBlock] using hk.symm), ?_, fun e => by simp at e⟩
  · simp [World.setCell, Array.getElem?_modify, hb]
  · have h2 : (strs acc ++ [Value.string p]) = strs (acc ++ [p]) := by simp [strs]
    rw [h2] at hown
    have h3 : (acc ++ [p]).length = L + 1 := by simp [hL]
    rw [show (⟨A, G, acc ++ [p], false⟩ : Lg).list.length = L + 1 from h3]
    exact own_other hown fun k hk => by
      obtain rfl : g3 = k := by simpa [Value.ownBlock] using hk
      exact Below.heap_setCell w3 ⟨v, 3, none⟩ _ g3 hnv
  · rintro k (hk | rfl)
    · exact ⟨(h.lt k hk).1, by simp [World.setCell]; have := (h.lt k hk).2; omega⟩
    · exact ⟨hge, by simpa [World.setCell] using hlt⟩
theorem inv_area {A G : Nat} {acc : List ByteArray} (h : InvV w B V v m ⟨0, G, acc, false⟩ lv) (hA : A = 0) : InvV w B V v m ⟨A, G, acc, false⟩ lv := by rw [hA]; exact h
theorem inv_both {A G : Nat} {acc : List ByteArray} (h : InvV w B V v m ⟨0, 1, acc, false⟩ lv) (hA : A = 0) (hG : G = 1) : InvV w B V v m ⟨A, G, acc, false⟩ lv := by rw [hA, hG]; exact h
end Go.Proofs.Ytooikkjgcpngdaa
