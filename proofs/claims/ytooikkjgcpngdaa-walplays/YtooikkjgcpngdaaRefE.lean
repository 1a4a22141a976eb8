/-
  The document's disk as the laws see it.
-/
import Derived.Test.YtooikkjgcpngdaaRefD
namespace Go.Proofs.Ytooikkjgcpngdaa
open Go.RowKit

variable {P Q R : Nat → Prop} {w w' : World} {B m g : Nat} {fu : Fu} {s : Dk}

/-- The document's disk m, of fuse g. -/
def DskR (w : World) (B : Nat) (R : Nat → Prop) (m g : Nat) (s : Dk) (fu : Fu) : Prop :=
  (∃ lv nv wv hv, InvR w B R m g fu s.size s.last s.now (s.opn.map Prod.fst) (s.opn.map Prod.snd) lv nv wv hv ∧ (s.opn = [] → wv = .slice none 0 0 ∧ hv = .slice none 0 0)) ∧ s.Good ∧ fu.Good
theorem DskR.lt (h : DskR w B R m g s fu) : ∀ k, R k → B ≤ k ∧ k < w.heap.size := by
  obtain ⟨⟨_, _, _, _, h, _⟩, _⟩ := h
  exact h.lt
theorem DskR.good (h : DskR w B R m g s fu) : s.Good := h.2.1
theorem DskR.rm (h : DskR w B R m g s fu) : R m ∧ R g := by
  obtain ⟨⟨_, _, _, _, h, _⟩, _⟩ := h
  exact ⟨h.rm, h.rg⟩
theorem DskR.stays (h : DskR w B R m g s fu) (hs : w.heap.size ≤ w'.heap.size) (hb : ∀ k, R k → w'.heap[k]? = w.heap[k]?) : DskR w' B R m g s fu := by
  obtain ⟨⟨lv, nv, wv, hv, h, hn⟩, hg⟩ := h
  exact ⟨⟨lv, nv, wv, hv, h.stays hs hb, hn⟩, hg⟩
theorem DskR.kept (h : DskR w B R m g s fu) (hk : Kept Q w w') (hq : ∀ k, R k → ¬ Q k) : DskR w' B R m g s fu :=
  h.stays hk.size fun k hp => hk.block k (h.lt k hp).2 (hq k hp)
theorem DskR.under (h : DskR w B R m g s fu) (hk : Below w.heap.size w w') : DskR w' B R m g s fu :=
  h.stays hk.size fun k hp => hk.block k (h.lt k hp).2
theorem DskR.alloc (h : DskR w B R m g s fu) (o : Obj) : DskR (w.alloc o) B R m g s fu :=
  h.stays (by simp) fun k hp => Below.heap_alloc w o k (h.lt k hp).2
theorem DskR.drew (h : DskR w B R m g s fu) : DskR w.drew B R m g s fu := h.stays (Nat.le_refl _) fun _ _ => rfl
theorem DskR.drewN (h : DskR w B R m g s fu) (n : Nat) : DskR (w.drewN n) B R m g s fu := h.stays (Nat.le_refl _) fun _ _ => rfl
theorem DskR.fz (h : DskR w B R m g s fu) : FzR w g fu := by
  obtain ⟨⟨_, _, _, _, h, _⟩, _⟩ := h
  exact h.hf
theorem DskR.fuse (h : DskR w B R m g s fu) {fu' : Fu} (hz : FzR w' g fu') (ho : Only g w w') (hg : fu'.Good) : DskR w' B R m g s fu' := by
  obtain ⟨⟨lv, nv, wv, hv, h, hn⟩, h1, _⟩ := h
  exact ⟨⟨lv, nv, wv, hv, h.fuse hz ho, hn⟩, h1, hg⟩
theorem DskR.c0 (h : DskR w B R m g s fu) : w.cell? ⟨m, 0, none⟩ = some (.int .i64 (s.size : Int)) := by
  obtain ⟨⟨_, _, _, _, h, _⟩, _⟩ := h
  exact h.c0
theorem DskR.c2 (h : DskR w B R m g s fu) : ∃ a cap, w.cell? ⟨m, 2, none⟩ = some (.slice a s.now.length cap) := by
  obtain ⟨⟨_, _, _, _, h, _⟩, _⟩ := h
  obtain ⟨a, cap, e⟩ := own_shape h.on
  exact ⟨a, cap, by rw [h.c2, e]⟩
theorem DskR.c3 (h : DskR w B R m g s fu) : ∃ a cap, w.cell? ⟨m, 3, none⟩ = some (.slice a s.opn.length cap) := by
  obtain ⟨⟨_, _, _, _, h, _⟩, _⟩ := h
  obtain ⟨a, cap, e⟩ := own_shape h.ow
  exact ⟨a, cap, by rw [h.c3, e, List.length_map]⟩

theorem mwrite_D (i : Int) (b : ByteArray) (h : DskR w B R m g s fu) (hc : fu.count < 1000000) (hl : s.opn.length < 1000000) (hBw : B ≤ w.heap.size) :
    Calls Try.prog 60 #[.pointer (some ⟨m, 0, none⟩), .int .i64 i, .string b] w fun e w' => e = .returned (.int .i64 (wcode s fu i b)) ∧ ∃ R', DskR w' B R' m g (wstate s fu i b) (wfuse s fu i b) ∧ Kept R w w' ∧ (∀ k, R' k → R k ∨ w.heap.size ≤ k) := by
  have hg := wstate_good (fu := fu) (i := i) (b := b) h.good
  have hfg := wfuse_good (s := s) (i := i) (b := b) h.2.2
  obtain ⟨⟨lv, nv, wv, hv, h, hn⟩, hgd, hfd⟩ := h
  cases hb : bad s i b with
  | true =>
    have e1 : wcode s fu i b = 1 := by simp [wcode, hb]
    have e2 : wstate s fu i b = s := by simp [wstate, hb]
    have e3 : wfuse s fu i b = fu := by simp [wfuse, hb]
    rw [e2] at hg
    rw [e3] at hfg
    rw [e1, e2, e3]
    have key : Calls Try.prog 60 #[.pointer (some ⟨m, 0, none⟩), .int .i64 i, .string b] w fun e w' => e = .returned (.int .i64 1) ∧ w = w' := by
      by_cases h0 : i < 0
      · exact mwrite_low i b h0 w m
      · obtain ⟨j, rfl⟩ : ∃ j : Nat, i = (j : Int) := ⟨i.toNat, by omega⟩
        by_cases h1 : s.now.length ≤ j
        · exact mwrite_high j b h h1
        · refine mwrite_size j b h (by omega) fun e => ?_
          rw [good_in (by omega) e] at hb
          cases hb
    refine key.mono ?_
    rintro e w' ⟨rfl, rfl⟩
    exact ⟨rfl, R, ⟨⟨lv, nv, wv, hv, h, hn⟩, hg, hfg⟩, Kept.refl _ _, fun k hk => .inl hk⟩
  | false =>
    obtain ⟨h1, h2, h3⟩ := bad_false hb
    obtain ⟨j, rfl⟩ : ∃ j : Nat, i = (j : Int) := ⟨i.toNat, by omega⟩
    have e3 : wfuse s fu j b = fu.spent := by simp [wfuse, hb]
    rw [e3] at hfg ⊢
    cases ho : fu.ok with
    | true =>
      have e1 : wcode s fu j b = 0 := by simp [wcode, hb, ho]
      have e2 : wstate s fu j b = s.write j b := by simp [wstate, hb, ho]
      rw [e2] at hg
      rw [e1, e2]
      have key : Calls Try.prog 60 #[.pointer (some ⟨m, 0, none⟩), .int .i64 (j : Int), .string b] w fun e w' => e = .returned (.int .i64 0) ∧ ∃ nv' wv' hv', InvR w' B (grow R w w') m g fu.spent s.size s.last (s.now.set j b) (s.opn.map Prod.fst ++ [j]) (s.opn.map Prod.snd ++ [b]) lv nv' wv' hv' ∧ Kept R w w' := by
        cases hq : s.opn with
        | nil =>
          obtain ⟨rfl, rfl⟩ := hn hq
          rw [hq] at h
          exact mwrite_first j b h (by omega) hgd.n1 h3 hfd hc ho hBw
        | cons p l =>
          rw [hq] at h hl
          exact mwrite_more j b h (by simp) (by simp) (by simpa using hl) (by omega) hgd.n1 h3 hfd hc ho hBw
      refine key.mono ?_
      rintro e w' ⟨rfl, nv', wv', hv', hi, hk⟩
      refine ⟨rfl, grow R w w', ⟨⟨lv, nv', wv', hv', ?_, fun hq => by simp [Dk.write] at hq⟩, hg, hfg⟩, hk, fun k hk => hk.imp id And.left⟩
      simpa [Dk.write] using hi
    | false =>
      have e1 : wcode s fu j b = 2 := by simp [wcode, hb, ho]
      have e2 : wstate s fu j b = s := by simp [wstate, hb, ho]
      rw [e2] at hg
      rw [e1, e2]
      refine (mwrite_halt j b h (by omega) h3 ho).mono ?_
      rintro e w' ⟨rfl, hi, hk⟩
      exact ⟨rfl, R, ⟨⟨lv, nv, wv, hv, hi, hn⟩, hg, hfg⟩, hk, fun k hk => .inl hk⟩

theorem mflush_D (h : DskR w B R m g s fu) (hc : fu.count < 1000000) :
    Calls Try.prog 38 #[.pointer (some ⟨m, 0, none⟩)] w fun e w' => e = .returned (.int .i64 (fcode fu)) ∧ DskR w' B R m g (fstate s fu) fu.spent ∧ Kept R w w' := by
  have hg := fstate_good (fu := fu) h.good
  have hfg := h.2.2.spent
  obtain ⟨⟨lv, nv, wv, hv, h, hn⟩, hgd, hfd⟩ := h
  cases ho : fu.ok with
  | true =>
    have e1 : fcode fu = 0 := by simp [fcode, ho]
    have e2 : fstate s fu = s.flush := by simp [fstate, ho]
    rw [e2] at hg
    rw [e1, e2]
    refine (mflush_ok h hfd hc ho).mono ?_
    rintro e w' ⟨rfl, hi, hk⟩
    exact ⟨rfl, ⟨⟨_, _, _, _, hi, fun _ => ⟨rfl, rfl⟩⟩, hg, hfg⟩, hk⟩
  | false =>
    have e1 : fcode fu = 2 := by simp [fcode, ho]
    have e2 : fstate s fu = s := by simp [fstate, ho]
    rw [e2] at hg
    rw [e1, e2]
    refine (mflush_halt h ho).mono ?_
    rintro e w' ⟨rfl, hi, hk⟩
    exact ⟨rfl, ⟨⟨lv, nv, wv, hv, hi, hn⟩, hg, hfg⟩, hk⟩

theorem mcrash_D (keep : Nat) (t : Int) (hk : keep < 18446744073709551616) (h : DskR w B R m g s fu) (hl : s.opn.length < 1000000) (hBw : B ≤ w.heap.size) :
    Calls Try.prog 22 #[.pointer (some ⟨m, 0, none⟩), .int .u64 (keep : Int), .int .i64 t] w fun e w' => e = .returned (.tuple #[]) ∧ ∃ R', DskR w' B R' m g (s.crash keep (cut t s.size)) fu.reset ∧ Kept R w w' ∧ (∀ k, R' k → R k ∨ w.heap.size ≤ k) := by
  obtain ⟨⟨lv, nv, wv, hv, h, hn⟩, hgd, hfd⟩ := h
  refine (mcrash_any keep t s hk h hgd hl hBw).mono ?_
  rintro e w' ⟨rfl, lv', hi, hk⟩
  exact ⟨rfl, grow R w w', ⟨⟨lv', lv', _, _, hi, fun _ => ⟨rfl, rfl⟩⟩, hgd.crash keep (cut_le _ _), hfd.reset⟩, hk, fun k hk => hk.imp id And.left⟩

theorem mnew_D (size n : Int) (z k : Nat) (hz : (z : Int) = min (max size 128) 1024) (hk : (k : Int) = min (max n 4) 1024) (hf : FzR w g fu) (hg : fu.Good) (hB : B ≤ g) (hBw : B ≤ w.heap.size) :
    Calls Try.prog 12 #[.int .i64 size, .int .i64 n, .pointer (some ⟨g, 0, none⟩)] w fun e w' => ∃ m R, e = .returned (.pointer (some ⟨m, 0, none⟩)) ∧ DskR w' B R m g (fresh z k) fu ∧ Below w.heap.size w w' ∧ (∀ k, R k → k = g ∨ w.heap.size ≤ k) := by
  refine (mnew_any size n z k hz hk hf hB hBw).mono ?_
  rintro e w' ⟨m, lv, nv, rfl, hi, hb⟩
  exact ⟨m, _, rfl, ⟨⟨lv, nv, _, _, hi, fun _ => ⟨rfl, rfl⟩⟩, fresh_good z k (by omega) (by omega) (by omega), hg⟩, hb, fun k hk => hk.imp id And.left⟩
end Go.Proofs.Ytooikkjgcpngdaa
