/-
  A disk as the laws see it: each call's answer, and the disk behind it.
-/
import Derived.Test.YtooikkjgcpngdaaDiskD
namespace Go.Proofs.Ytooikkjgcpngdaa
open Go.RowKit

variable {P Q : Nat → Prop} {w w' : World} {B d f : Nat} {s : Dk} {fu : Fu}

/-- The program's disk d, of fuse f. -/
def Dsk (w : World) (B : Nat) (P : Nat → Prop) (d f : Nat) (s : Dk) (fu : Fu) : Prop := (∃ nb lb ov, InvP w B P d f s fu nb lb ov) ∧ s.Good ∧ fu.Good
theorem Dsk.lt (h : Dsk w B P d f s fu) : ∀ k, P k → B ≤ k ∧ k < w.heap.size := by
  obtain ⟨⟨_, _, _, h⟩, _⟩ := h
  exact h.lt
theorem Dsk.good (h : Dsk w B P d f s fu) : s.Good := h.2.1
theorem Dsk.fgood (h : Dsk w B P d f s fu) : fu.Good := h.2.2
theorem Dsk.pd (h : Dsk w B P d f s fu) : P d ∧ P f := by
  obtain ⟨⟨_, _, _, h⟩, _⟩ := h
  exact ⟨h.pd, h.pf⟩
theorem Dsk.kept (h : Dsk w B P d f s fu) (hk : Kept Q w w') (hq : ∀ k, P k → ¬ Q k) : Dsk w' B P d f s fu := by
  obtain ⟨⟨nb, lb, ov, h⟩, hg⟩ := h
  exact ⟨⟨nb, lb, ov, h.kept hk hq⟩, hg⟩
theorem Dsk.under (h : Dsk w B P d f s fu) (hk : Below w.heap.size w w') : Dsk w' B P d f s fu := by
  obtain ⟨⟨nb, lb, ov, h⟩, hg⟩ := h
  exact ⟨⟨nb, lb, ov, h.under hk⟩, hg⟩
theorem Dsk.alloc (h : Dsk w B P d f s fu) (o : Obj) : Dsk (w.alloc o) B P d f s fu := by
  obtain ⟨⟨nb, lb, ov, h⟩, hg⟩ := h
  exact ⟨⟨nb, lb, ov, h.alloc o⟩, hg⟩
theorem Dsk.drew (h : Dsk w B P d f s fu) : Dsk w.drew B P d f s fu := by
  obtain ⟨⟨nb, lb, ov, h⟩, hg⟩ := h
  exact ⟨⟨nb, lb, ov, h.drew⟩, hg⟩
theorem Dsk.drewN (h : Dsk w B P d f s fu) (n : Nat) : Dsk (w.drewN n) B P d f s fu := by
  obtain ⟨⟨nb, lb, ov, h⟩, hg⟩ := h
  exact ⟨⟨nb, lb, ov, h.drewN n⟩, hg⟩
theorem Dsk.fz (h : Dsk w B P d f s fu) : Fz w f 58 fu := by
  obtain ⟨⟨nb, lb, ov, h⟩, hg⟩ := h
  exact h.hf
theorem Dsk.fuse (h : Dsk w B P d f s fu) {fu' : Fu} (hz : Fz w' f 58 fu') (ho : Only f w w') (hg : fu'.Good) : Dsk w' B P d f s fu' := by
  obtain ⟨⟨nb, lb, ov, h⟩, h1, h2⟩ := h
  exact ⟨⟨nb, lb, ov, h.fuse hz ho⟩, h1, hg⟩

/-- Is a write out of range? -/
def bad (s : Dk) (i : Int) (b : ByteArray) : Bool := decide (i < 0) || decide ((s.now.length : Int) ≤ i) || !(b.size == s.size)
def wcode (s : Dk) (fu : Fu) (i : Int) (b : ByteArray) : Int := if bad s i b then 1 else if fu.ok then 0 else 2
def wstate (s : Dk) (fu : Fu) (i : Int) (b : ByteArray) : Dk := if bad s i b then s else if fu.ok then s.write i.toNat b else s
def wfuse (s : Dk) (fu : Fu) (i : Int) (b : ByteArray) : Fu := if bad s i b then fu else fu.spent
def fcode (fu : Fu) : Int := if fu.ok then 0 else 2
def fstate (s : Dk) (fu : Fu) : Dk := if fu.ok then s.flush else s
def rstr (s : Dk) (i : Int) : ByteArray := if i < 0 ∨ (s.now.length : Int) ≤ i then nil else s.now.getD i.toNat nil
def rcode (s : Dk) (i : Int) : Int := if i < 0 ∨ (s.now.length : Int) ≤ i then 1 else 0

theorem bad_false {s : Dk} {i : Int} {b : ByteArray} (h : bad s i b = false) : 0 ≤ i ∧ i.toNat < s.now.length ∧ b.size = s.size := by
  simp [bad] at h
  omega
theorem good_in {s : Dk} {i : Nat} {b : ByteArray} (h : i < s.now.length) (hb : b.size = s.size) : bad s (i : Int) b = false := by
  simp [bad, hb]
  omega
theorem wstate_good {s : Dk} {fu : Fu} {i : Int} {b : ByteArray} (h : s.Good) : (wstate s fu i b).Good := by
  unfold wstate
  split
  · exact h
  · rename_i hb
    obtain ⟨h1, h2, h3⟩ := bad_false (by simpa using hb)
    split
    · exact h.write h2 h3
    · exact h
theorem wstate_len (s : Dk) (fu : Fu) (i : Int) (b : ByteArray) : (wstate s fu i b).now.length = s.now.length ∧ (wstate s fu i b).size = s.size ∧ (wstate s fu i b).opn.length ≤ s.opn.length + 1 := by
  unfold wstate
  split
  · exact ⟨rfl, rfl, by omega⟩
  · split
    · exact ⟨by simp [Dk.write], rfl, by simp [Dk.write]⟩
    · exact ⟨rfl, rfl, by omega⟩
theorem wfuse_good {s : Dk} {fu : Fu} {i : Int} {b : ByteArray} (h : fu.Good) : (wfuse s fu i b).Good := by
  unfold wfuse
  split
  · exact h
  · exact h.spent
theorem wfuse_count (s : Dk) (fu : Fu) (i : Int) (b : ByteArray) : fu.count ≤ (wfuse s fu i b).count ∧ (wfuse s fu i b).count ≤ fu.count + 1 := by
  unfold wfuse
  split
  · omega
  · exact fu.spent_count
theorem fstate_good {s : Dk} {fu : Fu} (h : s.Good) : (fstate s fu).Good := by
  unfold fstate
  split
  · exact h.flush
  · exact h

theorem write_D (i : Int) (b : ByteArray) (h : Dsk w B P d f s fu) (hc : fu.count < 1000000) (hl : s.opn.length < 1000000) (hBw : B ≤ w.heap.size) :
    Calls Try.prog 55 #[.pointer (some ⟨d, 0, none⟩), .int .i64 i, .string b] w fun e w' => e = .returned (.int .i64 (wcode s fu i b)) ∧ ∃ P', Dsk w' B P' d f (wstate s fu i b) (wfuse s fu i b) ∧ Kept P w w' ∧ (∀ k, P' k → P k ∨ w.heap.size ≤ k) := by
  have hg := wstate_good (fu := fu) (i := i) (b := b) h.good
  have hfg := wfuse_good (s := s) (i := i) (b := b) h.fgood
  obtain ⟨⟨nb, lb, ov, h⟩, hgd, hfd⟩ := h
  cases hb : bad s i b with
  | true =>
    have e1 : wcode s fu i b = 1 := by simp [wcode, hb]
    have e2 : wstate s fu i b = s := by simp [wstate, hb]
    have e3 : wfuse s fu i b = fu := by simp [wfuse, hb]
    rw [e2] at hg
    rw [e3] at hfg
    rw [e1, e2, e3]
    have key : Calls Try.prog 55 #[.pointer (some ⟨d, 0, none⟩), .int .i64 i, .string b] w fun e w' => e = .returned (.int .i64 1) ∧ w = w' := by
      by_cases hi : i < 0 ∨ (s.now.length : Int) ≤ i
      · exact write_out i b h hi
      · obtain ⟨j, rfl⟩ : ∃ j : Nat, i = (j : Int) := ⟨i.toNat, by omega⟩
        refine write_size j b h (by omega) fun e => ?_
        rw [good_in (by omega) e] at hb
        cases hb
    refine key.mono ?_
    rintro e w' ⟨rfl, rfl⟩
    exact ⟨rfl, P, ⟨⟨nb, lb, ov, h⟩, hg, hfg⟩, Kept.refl _ _, fun k hk => .inl hk⟩
  | false =>
    obtain ⟨h1, h2, h3⟩ := bad_false hb
    obtain ⟨j, rfl⟩ : ∃ j : Nat, i = (j : Int) := ⟨i.toNat, by omega⟩
    have e3 : wfuse s fu j b = fu.spent := by simp [wfuse, hb]
    rw [e3] at hfg ⊢
    cases ho : fu.ok with
    | true =>
      have e1 : wcode s fu j b = 0 := by simp [wcode, hb, ho]
      have e2 : wstate s fu j b = s.write j b := by simp [wstate, hb, ho]
      rw [e2] at hg
      rw [e1, e2]
      refine (write_ok j b h (by omega) h3 hfd hc ho hl hBw).mono ?_
      rintro e w' ⟨rfl, ov', hi, hk⟩
      exact ⟨rfl, grow P w w', ⟨⟨nb, lb, ov', hi⟩, hg, hfg⟩, hk, fun k hk => hk.imp id And.left⟩
    | false =>
      have e1 : wcode s fu j b = 2 := by simp [wcode, hb, ho]
      have e2 : wstate s fu j b = s := by simp [wstate, hb, ho]
      rw [e2] at hg
      rw [e1, e2]
      refine (write_halt j b h (by omega) h3 ho).mono ?_
      rintro e w' ⟨rfl, hi, hk⟩
      exact ⟨rfl, P, ⟨⟨nb, lb, ov, hi⟩, hg, hfg⟩, hk, fun k hk => .inl hk⟩

theorem flush_D (h : Dsk w B P d f s fu) (hc : fu.count < 1000000) (hl : s.opn.length < 1000000) :
    Calls Try.prog 34 #[.pointer (some ⟨d, 0, none⟩)] w fun e w' => e = .returned (.int .i64 (fcode fu)) ∧ Dsk w' B P d f (fstate s fu) fu.spent ∧ Kept P w w' := by
  have hg := fstate_good (fu := fu) h.good
  have hfg := h.fgood.spent
  obtain ⟨⟨nb, lb, ov, h⟩, hgd, hfd⟩ := h
  cases ho : fu.ok with
  | true =>
    have e1 : fcode fu = 0 := by simp [fcode, ho]
    have e2 : fstate s fu = s.flush := by simp [fstate, ho]
    rw [e2] at hg
    rw [e1, e2]
    refine (flush_ok h hgd hfd hc ho hl).mono ?_
    rintro e w' ⟨rfl, hi, hk⟩
    exact ⟨rfl, ⟨⟨nb, lb, _, hi⟩, hg, hfg⟩, hk⟩
  | false =>
    have e1 : fcode fu = 2 := by simp [fcode, ho]
    have e2 : fstate s fu = s := by simp [fstate, ho]
    rw [e2] at hg
    rw [e1, e2]
    refine (flush_halt h ho).mono ?_
    rintro e w' ⟨rfl, hi, hk⟩
    exact ⟨rfl, ⟨⟨nb, lb, ov, hi⟩, hg, hfg⟩, hk⟩

theorem crash_D (keep : Nat) (t : Int) (hk : keep < 18446744073709551616) (h : Dsk w B P d f s fu) (hl : s.opn.length < 1000000) :
    Calls Try.prog 21 #[.pointer (some ⟨d, 0, none⟩), .int .u64 (keep : Int), .int .i64 t] w fun e w' => e = .returned (.tuple #[]) ∧ Dsk w' B P d f (s.crash keep (cut t s.size)) fu.reset ∧ Kept P w w' := by
  obtain ⟨⟨nb, lb, ov, h⟩, hgd, hfd⟩ := h
  refine (crash_any keep t hk h hgd hl).mono ?_
  rintro e w' ⟨rfl, hi, hk⟩
  exact ⟨rfl, ⟨⟨nb, lb, _, hi⟩, hgd.crash keep (cut_le _ _), hfd.reset⟩, hk⟩

theorem read_D (i : Int) (h : Dsk w B P d f s fu) : Calls Try.prog 78 #[.pointer (some ⟨d, 0, none⟩), .int .i64 i] w fun e w' => e = .returned (.tuple #[.string (rstr s i), .int .i64 (rcode s i)]) ∧ w = w' := by
  obtain ⟨⟨nb, lb, ov, h⟩, hgd, hfd⟩ := h
  by_cases hi : i < 0 ∨ (s.now.length : Int) ≤ i
  · have e1 : rstr s i = nil := by simp [rstr, hi]
    have e2 : rcode s i = 1 := by simp [rcode, hi]
    rw [e1, e2]
    exact read_out i h hi
  · have e1 : rstr s i = s.now.getD i.toNat nil := if_neg hi
    have e2 : rcode s i = 0 := if_neg hi
    rw [e1, e2]
    obtain ⟨j, rfl⟩ : ∃ j : Nat, i = (j : Int) := ⟨i.toNat, by omega⟩
    exact read_in j h (by omega)
theorem size_D (h : Dsk w B P d f s fu) : Calls Try.prog 54 #[.pointer (some ⟨d, 0, none⟩)] w fun e w' => e = .returned (.int .i64 (s.size : Int)) ∧ w = w' := by
  obtain ⟨⟨nb, lb, ov, h⟩, _⟩ := h
  exact size_any h
theorem len_D (h : Dsk w B P d f s fu) : Calls Try.prog 28 #[.pointer (some ⟨d, 0, none⟩)] w fun e w' => e = .returned (.int .i64 (s.now.length : Int)) ∧ w = w' := by
  obtain ⟨⟨nb, lb, ov, h⟩, _⟩ := h
  exact len_any h
theorem open_D (h : Dsk w B P d f s fu) : Calls Try.prog 33 #[.pointer (some ⟨d, 0, none⟩)] w fun e w' => e = .returned (.int .i64 (s.opn.length : Int)) ∧ w = w' := by
  obtain ⟨⟨nb, lb, ov, h⟩, _⟩ := h
  exact open_any h
theorem new_D (size n : Int) (z m : Nat) (hz : (z : Int) = min (max size 128) 1024) (hm : (m : Int) = min (max n 4) 1024) (hf : Fz w f 58 fu) (hg : fu.Good) (hB : B ≤ f) (hBw : B ≤ w.heap.size) :
    Calls Try.prog 11 #[.int .i64 size, .int .i64 n, .pointer (some ⟨f, 0, none⟩)] w fun e w' => ∃ d P, e = .returned (.pointer (some ⟨d, 0, none⟩)) ∧ Dsk w' B P d f (fresh z m) fu ∧ Below w.heap.size w w' ∧ (∀ k, P k → k = f ∨ w.heap.size ≤ k) := by
  refine (dnew_any size n z m hz hm hf hB hBw).mono ?_
  rintro e w' ⟨d, nb, lb, rfl, hi, hb⟩
  exact ⟨d, _, rfl, ⟨⟨nb, lb, _, hi⟩, fresh_good z m (by omega) (by omega) (by omega), hg⟩, hb, fun k hk => hk.imp id And.left⟩

/-! fill: a text of one byte. -/
end Go.Proofs.Ytooikkjgcpngdaa
