/-
  The document's own log: Open, all ways.
-/
import Derived.Test.YtooikkjgcpngdaaWalRefG
import Derived.Test.YtooikkjgcpngdaaWalRefH
import Derived.Test.YtooikkjgcpngdaaWalRefI
import Derived.Test.YtooikkjgcpngdaaWalRefJ
namespace Go.Proofs.Ytooikkjgcpngdaa
open Go.RowKit
open Fr (Rec secB valL lenV)

variable {P Q R V : Nat → Prop} {w w' : World} {B m g v : Nat} {fu : Fu} {s : Dk} {l : Lg} {lv : Value}


/-- What the document's Open leaves. -/
def OpenPostR (w : World) (B : Nat) (R : Nat → Prop) (m g : Nat) (r : Int × Dk × Fu × Option Lg) (e : Ending) (w' : World) : Prop := match r.2.2.2 with
  | some l => OpenedR w B R m g r.2.1 r.2.2.1 l e w'
  | none => HaltedR w B R m g r.2.1 r.2.2.1 e w'
/-- The document's Open, all ways. -/
theorem mopen_W (h : DskR w B R m g s fu) (hbig : s.Big) (hop : s.opn.length < 800000) (hc : fu.count < 800000) (hBw : B ≤ w.heap.size) :
    Calls Try.prog 14 #[.pointer (some ⟨m, 0, none⟩)] w (OpenPostR w B R m g (openR s fu)) := by
  unfold openR
  by_cases ho : s.opn.length = 0
  · rw [if_pos ho]
    unfold opened
    by_cases hh : headG (s.at 0) = 0 ∧ headG (s.at s.half) = 0
    · rw [if_pos hh]
      cases hl : layOk fu with
      | true => exact mopen_ok h hbig ho hc hBw hh.1 hh.2 hl
      | false => exact mopen_no h hbig ho hc hBw hh.1 hh.2 hl
    · rw [if_neg hh]
      by_cases h1 : headG (s.at 0) < headG (s.at s.half)
      · rw [if_pos h1]
        exact mopen_one h hbig ho hBw h1
      · rw [if_neg h1]
        have h0 : headG (s.at 0) ≠ 0 := fun e => hh ⟨e, by omega⟩
        exact mopen_nought h hbig ho hBw h0 h1
  · rw [if_neg ho]
    cases hok : fu.ok with
    | false =>
      show Calls Try.prog 14 #[.pointer (some ⟨m, 0, none⟩)] w (OpenPostR w B R m g (2, s, fu.spent, none))
      exact mopen_halt h (Nat.pos_of_ne_zero ho) hop hok hc
    | true =>
      show Calls Try.prog 14 #[.pointer (some ⟨m, 0, none⟩)] w (OpenPostR w B R m g (opened s.flush fu.spent))
      unfold opened
      by_cases hh : headG (s.flush.at 0) = 0 ∧ headG (s.flush.at s.flush.half) = 0
      · rw [if_pos hh]
        cases hl : layOk fu.spent with
        | true => exact mopen_okF h hbig (Nat.pos_of_ne_zero ho) hop hok hc hBw hh.1 hh.2 hl
        | false => exact mopen_noF h hbig (Nat.pos_of_ne_zero ho) hop hok hc hBw hh.1 hh.2 hl
      · rw [if_neg hh]
        by_cases h1 : headG (s.flush.at 0) < headG (s.flush.at s.flush.half)
        · rw [if_pos h1]
          exact mopen_oneF h hbig (Nat.pos_of_ne_zero ho) hop hok hc hBw h1
        · rw [if_neg h1]
          have h0 : headG (s.flush.at 0) ≠ 0 := fun e => hh ⟨e, by omega⟩
          exact mopen_noughtF h hbig (Nat.pos_of_ne_zero ho) hop hok hc hBw h0 h1
end Go.Proofs.Ytooikkjgcpngdaa
