/-
  WalPlays: what its walk stands on.
-/
import Derived.Test.YtooikkjgcpngdaaWalM
namespace Go.Proofs.Ytooikkjgcpngdaa
open Go.RowKit
open Fr (Rec secB valL lenV)
theorem cellA0 {w : World} {A : Nat} {a b c d : Value} {t : TypeId} (h : w.heap[A]? = some (.cells #[a, b, c, d] t)) : w.cell? ⟨A, 0, none⟩ = some a := by rw [cell_of_row w A 0 _ _ _ h]; rfl
theorem cellA1 {w : World} {A : Nat} {a b c d : Value} {t : TypeId} (h : w.heap[A]? = some (.cells #[a, b, c, d] t)) : w.cell? ⟨A, 1, none⟩ = some b := by rw [cell_of_row w A 1 _ _ _ h]; rfl
theorem cellA2 {w : World} {A : Nat} {a b c d : Value} {t : TypeId} (h : w.heap[A]? = some (.cells #[a, b, c, d] t)) : w.cell? ⟨A, 2, none⟩ = some c := by rw [cell_of_row w A 2 _ _ _ h]; rfl
theorem cellA3 {w : World} {A : Nat} {a b c d : Value} {t : TypeId} (h : w.heap[A]? = some (.cells #[a, b, c, d] t)) : w.cell? ⟨A, 3, none⟩ = some d := by rw [cell_of_row w A 3 _ _ _ h]; rfl
theorem under_drew {wa w7 : World} (h : Below wa.drew.heap.size wa.drew w7) : Below wa.heap.size wa w7 := ⟨h.os, h.tape, h.output, h.size, h.block⟩
theorem Fz.past {w w' : World} {b : Nat} {t : TypeId} {s : Fu} (h : Fz w b t s) (hb : Below w.heap.size w w') : Fz w' b t s := h.under hb h.lt
theorem half_open {s : Dk} {fu : Fu} (h : s.Good) : (openR s fu).2.1.half ≤ 512 := by
  have hh := (Dk.half_le h).1
  unfold openR
  have ho : ∀ (x : Dk) (u : Fu), x.half ≤ 512 → (opened x u).2.1.half ≤ 512 := by
    intro x u hx
    unfold opened
    split
    · split
      · show (layS ..).half ≤ 512
        rw [layS_half]; exact hx
      · show (layS ..).half ≤ 512
        rw [layS_half]; exact hx
    · split
      · exact hx
      · exact hx
  split
  · exact ho _ _ hh
  · split
    · exact ho _ _ hh
    · exact hh
theorem fresh_fine (z n : Nat) (h1 : 128 ≤ z) (h2 : 4 ≤ n) : Fine (fresh z n) ⟨false, 0, false, 0⟩ 0 :=
  ⟨⟨h1, by simpa [fresh] using h2⟩, by simp [fresh], by show (0 : Int) ≤ _; omega⟩
/-- A play's first state. -/
theorem first_open {w0 w : World} {P R : Nat → Prop} {d f m g A z n : Nat} {blk : Obj} (h : PairD w0 w P R d f m g A blk (fresh z n) (fresh z n) ⟨false, 0, false, 0⟩ ⟨false, 0, false, 0⟩) (h1 : 128 ≤ z) (h2 : z ≤ 1024) (h3 : 4 ≤ n) (h4 : n ≤ 1024) :
    Calls Try.prog 13 #[.pointer (some ⟨d, 0, none⟩)] w fun e w' => ∃ P' v ra rc s' fu', e = .returned (.tuple #[.pointer (some ⟨v, 0, none⟩), .slice ra 0 rc, .int .i64 0]) ∧ Hid (Mid w0 w' P' R d f m g v A blk s' (fresh z n) fu' ⟨false, 0, false, 0⟩ ⟨0, 1, [], false⟩ (.slice ra 0 rc) ∧ (openR (fresh z n) ⟨false, 0, false, 0⟩) = (0, s', fu', some ⟨0, 1, [], false⟩) ∧ Fine s' fu' 1 ∧ FineL s' ⟨0, 1, [], false⟩) := by
  obtain ⟨s', he, _, _, _⟩ := fresh_log z n h1 h2 h3 h4 (fu := ⟨false, 0, false, 0⟩) (by decide)
  have hF := fresh_fine z n h1 h3
  have ho : (openR (fresh z n) ⟨false, 0, false, 0⟩).2.2.2 = some ⟨0, 1, [], false⟩ := by rw [he]
  have hf := open_fine hF
  refine (pd_open1 h hF (by omega) ho).mono ?_
  rintro e w' ⟨P', v, ra, rc, rfl, hm⟩
  rw [he] at hm hf
  exact ⟨P', v, ra, rc, _, _, rfl, Lib.hid ⟨hm, he, hf.1, hf.2 _ rfl⟩⟩
theorem then_open {w0 w : World} {P R : Nat → Prop} {d f m g v A z n : Nat} {blk : Obj} {s' : Dk} {fu' : Fu} {row : Value} (h : Mid w0 w P R d f m g v A blk s' (fresh z n) fu' ⟨false, 0, false, 0⟩ ⟨0, 1, [], false⟩ row) (he : openR (fresh z n) ⟨false, 0, false, 0⟩ = (0, s', fu', some ⟨0, 1, [], false⟩)) (h1 : 128 ≤ z) (h3 : 4 ≤ n) :
    Calls Try.prog 14 #[.pointer (some ⟨m, 0, none⟩)] w fun e w' => ∃ U v2, e = .returned (.tuple #[.pointer (some ⟨v2, 0, none⟩), .int .i64 0]) ∧ Hid (Pair w0 w' P U d f m g v v2 A blk s' s' fu' fu' ⟨0, 1, [], false⟩ ⟨0, 1, [], false⟩) := by
  refine (pd_open2 h (fresh_fine z n h1 h3) (by omega) (by rw [he])).mono ?_
  rintro e w' ⟨U, v2, la, lc, rfl, hp, _⟩
  rw [he] at hp
  exact ⟨U, v2, rfl, Lib.hid hp⟩
end Go.Proofs.Ytooikkjgcpngdaa
