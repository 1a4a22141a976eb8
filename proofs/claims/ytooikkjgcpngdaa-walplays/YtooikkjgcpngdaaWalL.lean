/-
  What stays bounded while a log is played; plain facts.
-/
import Derived.Test.YtooikkjgcpngdaaWalI
namespace Go.Proofs.Ytooikkjgcpngdaa
open Go.RowKit
open Fr (Rec secB valL lenV)

variable {P R V : Nat → Prop} {w w' : World} {B d f m g v v2 k : Nat} {fu : Fu} {s : Dk} {l : Lg} {lv : Value}

/-- Bounds of a disk and its fuse behind k acts. -/
structure Fine (s : Dk) (fu : Fu) (k : Nat) : Prop where
  big : s.Big
  opn : s.opn.length ≤ 4 * k + 1
  cnt : fu.count ≤ ((4 * k + 2 : Nat) : Int)
/-- A log's bounds. -/
structure FineL (s : Dk) (l : Lg) : Prop where
  area : l.area ≤ 1
  gen : l.gen < 4294967296
  len : l.list.length + 1 ≤ s.half
theorem half_big (h : s.Big) : 2 ≤ s.half := by unfold Dk.half; have := h.len; omega
theorem layS_at (s : Dk) (fu : Fu) (i : Nat) (b : ByteArray) : (layS s fu i b).half = s.half := layS_half s fu i b
theorem append_fine (t : ByteArray) (h : Fine s fu k) (hl : FineL s l) : Fine (appendR s fu l t).2.1 (appendR s fu l t).2.2.1 (k + 1) ∧ FineL (appendR s fu l t).2.1 (appendR s fu l t).2.2.2 := by
  have hq := h.opn
  have hc := h.cnt
  have same : Fine s fu (k + 1) ∧ FineL s l := ⟨⟨h.big, by omega, by omega⟩, hl⟩
  unfold appendR
  split
  · exact same
  · split
    · exact same
    · split
      · exact same
      · rename_i h3
        have e1 := layS_opn s fu (l.area * s.half + (l.list.length + 1)) (secB l.gen (l.list.length + 1) t s.size)
        have e2 := layF_count fu
        refine ⟨⟨layS_big _ _ _ h.big, by show (layS ..).opn.length ≤ _; omega, by show (layF fu).count ≤ _; omega⟩, ?_⟩
        show FineL (layS ..) (if _ then _ else _)
        split
        · exact ⟨hl.area, hl.gen, by rw [layS_at]; simp; omega⟩
        · exact ⟨hl.area, hl.gen, by rw [layS_at]; exact hl.len⟩
theorem check_fine (t : ByteArray) (h : Fine s fu k) (hl : FineL s l) : Fine (checkR s fu l t).2.1 (checkR s fu l t).2.2.1 (k + 1) ∧ FineL (checkR s fu l t).2.1 (checkR s fu l t).2.2.2 := by
  have hq := h.opn
  have hc := h.cnt
  have hh := half_big h.big
  have same : Fine s fu (k + 1) ∧ FineL s l := ⟨⟨h.big, by omega, by omega⟩, hl⟩
  unfold checkR
  split
  · exact same
  · split
    · exact same
    · split
      · exact same
      · rename_i h3
        have e1 := layS_opn s fu ((1 - l.area) * s.half + 1) (secB (l.gen + 1) 1 t s.size)
        have e2 := layF_count fu
        have e3 := layS_opn (layS s fu ((1 - l.area) * s.half + 1) (secB (l.gen + 1) 1 t s.size)) (layF fu) ((1 - l.area) * s.half + 0) (secB (l.gen + 1) 0 headT s.size)
        have e4 := layF_count (layF fu)
        split
        · refine ⟨⟨layS_big _ _ _ (layS_big _ _ _ h.big), by show (layS ..).opn.length ≤ _; omega, by show (layF (layF fu)).count ≤ _; omega⟩, ?_⟩
          show FineL (layS ..) (if _ then _ else _)
          split
          · exact ⟨by show 1 - l.area ≤ 1; omega, by show l.gen + 1 < _; omega, by rw [layS_at, layS_at]; exact hh⟩
          · exact ⟨hl.area, hl.gen, by rw [layS_at, layS_at]; exact hl.len⟩
        · exact ⟨⟨layS_big _ _ _ h.big, by show (layS ..).opn.length ≤ _; omega, by show (layF fu).count ≤ _; omega⟩, hl.area, hl.gen, by rw [layS_at]; exact hl.len⟩
theorem opened_fine (hbig : s.Big) (hb : s.opn.length ≤ 4 * k + 2) (hc : fu.count ≤ ((4 * k + 4 : Nat) : Int)) : Fine (opened s fu).2.1 (opened s fu).2.2.1 (k + 1) ∧ ∀ l, (opened s fu).2.2.2 = some l → FineL (opened s fu).2.1 l := by
  have hh := half_big hbig
  have e1 := layS_opn s fu 0 (secB 1 0 headT s.size)
  have e2 := layF_count fu
  have r0 := recs_len s.now 0 (headG (s.at 0)) (s.half - 1) 1
  have r1 := recs_len s.now s.half (headG (s.at s.half)) (s.half - 1) 1
  have r2 := recs_len (layS s fu 0 (secB 1 0 headT s.size)).now 0 1 (s.half - 1) 1
  have g0 := headG_lt (s.at 0)
  have g1 := headG_lt (s.at s.half)
  unfold opened
  split
  · split
    · refine ⟨⟨layS_big _ _ _ hbig, by show (layS ..).opn.length ≤ _; omega, by show (layF fu).count ≤ _; omega⟩, fun l hl => ?_⟩
      cases hl
      exact ⟨by show 0 ≤ 1; omega, by show 1 < 4294967296; omega, by rw [layS_at]; show (recs ..).length + 1 ≤ _; omega⟩
    · exact ⟨⟨layS_big _ _ _ hbig, by show (layS ..).opn.length ≤ _; omega, by show (layF fu).count ≤ _; omega⟩, fun l hl => by cases hl⟩
  · split
    · refine ⟨⟨hbig, by show s.opn.length ≤ _; omega, by show fu.count ≤ _; omega⟩, fun l hl => ?_⟩
      cases hl
      exact ⟨by show 1 ≤ 1; omega, g1, by show (recs ..).length + 1 ≤ s.half; omega⟩
    · refine ⟨⟨hbig, by show s.opn.length ≤ _; omega, by show fu.count ≤ _; omega⟩, fun l hl => ?_⟩
      cases hl
      exact ⟨by show 0 ≤ 1; omega, g0, by show (recs ..).length + 1 ≤ s.half; omega⟩
theorem open_fine (h : Fine s fu k) : Fine (openR s fu).2.1 (openR s fu).2.2.1 (k + 1) ∧ ∀ l, (openR s fu).2.2.2 = some l → FineL (openR s fu).2.1 l := by
  have hq := h.opn
  have hc := h.cnt
  have e2 := fu.spent_count
  unfold openR
  split
  · exact opened_fine h.big (by omega) (by omega)
  · split
    · exact opened_fine (s := s.flush) (flush_big h.big) (by show (0 : Nat) ≤ _; omega) (by omega)
    · exact ⟨⟨h.big, by show s.opn.length ≤ _; omega, by show fu.spent.count ≤ _; omega⟩, fun l hl => by cases hl⟩
theorem Fine.more (h : Fine s fu k) : Fine s fu (k + 1) := ⟨h.big, by have := h.opn; omega, by have := h.cnt; omega⟩
theorem Fine.arm (h : Fine s fu k) (n : Int) : Fine s (fu.arm n) (k + 1) := ⟨h.big, by have := h.opn; omega, by have := h.cnt; show fu.count ≤ _; omega⟩
theorem Fine.crash (h : Fine s fu k) (hg : s.Good) (keep : Nat) (t : Int) : Fine (s.crash keep (cut t s.size)) fu.reset k :=
  ⟨⟨h.big.size, by show 4 ≤ (s.crashed keep _).length; rw [(hg.crashed keep (cut_le _ _)).1]; exact h.big.len⟩, by show (0 : Nat) ≤ _; omega, h.cnt⟩
theorem Fine.lt (h : Fine s fu k) (hk : k ≤ 40) : s.opn.length < 800000 ∧ fu.count < 800000 := by
  have := h.opn
  have := h.cnt
  omega
end Go.Proofs.Ytooikkjgcpngdaa
