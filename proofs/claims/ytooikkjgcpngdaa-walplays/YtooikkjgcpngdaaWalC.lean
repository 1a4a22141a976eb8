/-
  The program's own log: the newest head, the records behind it; is a text too long?
-/
import Derived.Test.YtooikkjgcpngdaaWalB
namespace Go.Proofs.Ytooikkjgcpngdaa
open Go.RowKit
open Fr (Rec secB valL lenV)

variable {P Q : Nat → Prop} {w w' : World} {B d f v : Nat} {fu : Fu} {s : Dk} {l : Lg}

theorem newest_one (h : WalP w B P d f s fu v l) (h1 : headG (s.at 0) < headG (s.at s.half)) :
    Calls Try.prog 35 #[.pointer (some ⟨v, 0, none⟩)] w fun e w' => e = .returned (.tuple #[.int .i64 1, .int .i64 (headG (s.at s.half) : Int)]) ∧ Below w.heap.size w w' := by
  have hn0 := h.dsk.good.n0
  have H0 := Lib.hid (phead_any 0 0 h (by omega) (by omega) (by omega))
  have H1 : Hid (∀ W, Below w.heap.size w W → Calls Try.prog 52 #[.pointer (some ⟨v, 0, none⟩), .int .i64 1] W fun e w' => e = .returned (.int .i64 (headG (s.at s.half) : Int)) ∧ Below W.heap.size W w') := Lib.hid (fun W hb => by
    exact phead_any 1 s.half (h.under hb) (by omega) (by omega) (by unfold Dk.half; omega))
  obtain ⟨a, ea⟩ : ∃ a, a = headG (s.at 0) := ⟨_, rfl⟩
  obtain ⟨b, eb⟩ : ∃ b, b = headG (s.at s.half) := ⟨_, rfl⟩
  rw [← ea] at H0 h1
  rw [← eb] at H1 h1 ⊢
  have e1 : decide (a < b) = true := by simpa using h1
  clear ea eb h hn0 h1
  go_enter Try.func35, Try.ntmps35
  go_wp2_with fail
  refine H0.out.mono ?_
  rintro e w1 ⟨rfl, hb1⟩
  go_wp2_with fail
  refine (H1.out _ hb1).mono ?_
  rintro e w2 ⟨rfl, hb2⟩
  go_wp2
  go_ret2
  exact ⟨rfl, hb1.trans (hb2.mono hb1.size)⟩
theorem newest_nought (h : WalP w B P d f s fu v l) (h1 : ¬ headG (s.at 0) < headG (s.at s.half)) :
    Calls Try.prog 35 #[.pointer (some ⟨v, 0, none⟩)] w fun e w' => e = .returned (.tuple #[.int .i64 0, .int .i64 (headG (s.at 0) : Int)]) ∧ Below w.heap.size w w' := by
  have hn0 := h.dsk.good.n0
  have H0 := Lib.hid (phead_any 0 0 h (by omega) (by omega) (by omega))
  have H1 : Hid (∀ W, Below w.heap.size w W → Calls Try.prog 52 #[.pointer (some ⟨v, 0, none⟩), .int .i64 1] W fun e w' => e = .returned (.int .i64 (headG (s.at s.half) : Int)) ∧ Below W.heap.size W w') := Lib.hid (fun W hb => by
    exact phead_any 1 s.half (h.under hb) (by omega) (by omega) (by unfold Dk.half; omega))
  obtain ⟨a, ea⟩ : ∃ a, a = headG (s.at 0) := ⟨_, rfl⟩
  obtain ⟨b, eb⟩ : ∃ b, b = headG (s.at s.half) := ⟨_, rfl⟩
  rw [← ea] at H0 h1 ⊢
  rw [← eb] at H1 h1
  have e1 : decide (a < b) = false := by simpa using h1
  clear ea eb h hn0 h1
  go_enter Try.func35, Try.ntmps35
  go_wp2_with fail
  refine H0.out.mono ?_
  rintro e w1 ⟨rfl, hb1⟩
  go_wp2_with fail
  refine (H1.out _ hb1).mono ?_
  rintro e w2 ⟨rfl, hb2⟩
  go_wp2
  go_ret2
  exact ⟨rfl, hb1.trans (hb2.mono hb1.size)⟩

theorem isLong_any (t : ByteArray) (_ht : t.size ≤ maxLen) (h : WalP w B P d f s fu v l) (hbig : s.Big) (r : Bool) (hr : decide (s.size < t.size + 14) = r) :
    Calls Try.prog 42 #[.pointer (some ⟨v, 0, none⟩), .string t] w fun e w' => e = .returned (.bool r) ∧ w = w' := by
  unfold maxLen at _ht
  have c0 := h.log.c0
  have hsz := h.dsk.good.sz
  have hb1 := hbig.size
  have HZ := Lib.hid (size_D h.dsk)
  obtain ⟨sz, hsz'⟩ : ∃ sz, sz = s.size := ⟨_, rfl⟩
  rw [← hsz'] at HZ hsz hb1 hr
  have e7 : decide ((sz : Int) - 14 < (t.size : Int)) = r := by rw [← hr]; congr 1; apply propext; constructor <;> intro <;> omega
  clear hsz' h hbig hr
  go_enter Try.func42, Try.ntmps42
  go_wp2_with fail
  refine HZ.out.mono ?_
  rintro e w' ⟨rfl, rfl⟩
  go_wp2_with fail
  refine (Fr.froom_in sz _ hb1 hsz).mono ?_
  rintro e w' ⟨rfl, rfl⟩
  go_wp2
  go_ret
  exact ⟨rfl, rfl⟩

theorem recs_yes {now : List ByteArray} {base gen k i : Nat} {p : ByteArray} (h : look (now.getD (base + i) nil) = some (gen, i, p)) : recs now base gen (k + 1) i = p :: recs now base gen k (i + 1) := by
  rw [recs, h]
  simp
theorem recs_no {now : List ByteArray} {base gen i : Nat} (k : Nat) (h : ∀ p, look (now.getD (base + i) nil) ≠ some (gen, i, p)) : recs now base gen k i = [] := by
  cases k with
  | zero => rfl
  | succ k =>
    rw [recs]
    split
    · rename_i g n p hl
      rw [if_neg]
      rintro ⟨rfl, rfl⟩
      exact h p hl
    · rfl
theorem recs_len (now : List ByteArray) (base gen : Nat) : ∀ k i, (recs now base gen k i).length ≤ k
  | 0, _ => by simp [recs]
  | k + 1, i => by
    rw [recs]
    split
    · split
      · have := recs_len now base gen k (i + 1)
        simp
        omega
      · simp
    · simp
theorem strs_snoc (xs : List ByteArray) (x : ByteArray) : strs (xs ++ [x]) = strs xs ++ [.string x] := by simp [strs]
end Go.Proofs.Ytooikkjgcpngdaa
