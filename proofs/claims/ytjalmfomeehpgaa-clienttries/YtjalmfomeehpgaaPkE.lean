/-
  Package router and its fuse as one thing (Pk), what a call leaves alone (Turn), and bounds behind n calls (Bd).
-/
import Derived.Test.YtjalmfomeehpgaaPkD
namespace Go.Proofs.Ytjalmfomeehpgaa
open Go.RowKit

/-- What is left alone: all below B, and every block that is no router's, no fuse's and no row of numbers. -/
structure Turn (B : Nat) (w w' : World) : Prop where
  os : w'.os = w.os
  tape : w'.tape = w.tape
  output : w'.output = w.output
  size : w.heap.size ≤ w'.heap.size
  low : ∀ k : Nat, k < B → w'.heap[k]? = w.heap[k]?
  kind : ∀ (k : Nat) (cur : Array Value) (t : TypeId), t ≠ 59 → t ≠ 57 → t ≠ 3 → w.heap[k]? = some (Obj.cells cur t (0, 0)) → w'.heap[k]? = some (Obj.cells cur t (0, 0))
theorem Turn.refl (B : Nat) (w : World) : Turn B w w := ⟨rfl, rfl, rfl, Nat.le_refl _, fun _ _ => rfl, fun _ _ _ _ _ _ h => h⟩
theorem Turn.trans {B : Nat} {w w' w'' : World} (h : Turn B w w') (k : Turn B w' w'') : Turn B w w'' :=
  ⟨k.os.trans h.os, k.tape.trans h.tape, k.output.trans h.output, Nat.le_trans h.size k.size, fun j hj => (k.low j hj).trans (h.low j hj), fun j cur t h1 h2 h3 h4 => k.kind j cur t h1 h2 h3 (h.kind j cur t h1 h2 h3 h4)⟩
theorem Turn.of_below {B : Nat} {w w' : World} (h : Below w.heap.size w w') (hB : B ≤ w.heap.size) : Turn B w w' :=
  ⟨h.os, h.tape, h.output, h.size, fun k hk => h.block k (by omega), fun k _ _ _ _ _ h4 => (h.block k (lt_of_block h4)).trans h4⟩
theorem Turn.below {B : Nat} {a w w' : World} (h : Turn B w w') (hb : Below B a w) : Below B a w' :=
  ⟨h.os.trans hb.os, h.tape.trans hb.tape, h.output.trans hb.output, Nat.le_trans hb.size h.size, fun k hk => (h.low k hk).trans (hb.block k hk)⟩
theorem Turn.drewN {B n : Nat} {w w' : World} (h : Turn B w w') : Turn B w (w'.drewN n) := h.trans ⟨rfl, rfl, rfl, Nat.le_refl _, fun _ _ => rfl, fun _ _ _ _ _ _ h => h⟩
/-- A router with its fuse, all of it from block B on. -/
structure Pk (W : World) (B b g : Nat) (s : Ro) (f : Fu) : Prop where
  ro : ∃ v, RoP W b g v s ∧ ∀ k, v.ownBlock = some k → B ≤ k
  fz : Fz W g 57 f
  hb : B ≤ b
  hg : B ≤ g
theorem Pk.ne {W : World} {B b g : Nat} {s : Ro} {f : Fu} (h : Pk W B b g s f) : b ≠ g := fun e => by
  obtain ⟨v, hr, _⟩ := h.ro
  have h1 := hr.row
  have h2 := h.fz
  unfold Fz at h2
  rw [e, h2] at h1
  simp at h1
theorem Pk.le {W : World} {B b g : Nat} {s : Ro} {f : Fu} (h : Pk W B b g s f) : B ≤ W.heap.size := Nat.le_trans h.hg (Nat.le_of_lt h.fz.lt)
theorem Turn.of_buto {B b g : Nat} {v : Value} {w w' : World} {s : Ro} {f : Fu} (hr : RoP w b g v s) (hz : Fz w g 57 f) (hb : B ≤ b) (hg : B ≤ g) (hv : ∀ k, v.ownBlock = some k → B ≤ k) (h : ButO b g v w w') : Turn B w w' :=
  ⟨h.os, h.tape, h.output, h.size, fun k hk => h.block k (by have := lt_of_block hr.row; omega) (by omega) (by omega) (fun e => by have := hv k e; omega), fun k cur t h1 h2 h3 h4 => (h.block k (lt_of_block h4) (fun e => by
    rw [e, hr.row] at h4
    simp at h4
    exact h1 h4.2.symm) (fun e => by
    unfold Fz at hz
    rw [e, hz] at h4
    simp at h4
    exact h2 h4.2.symm) (fun e => by
    obtain ⟨c, hc⟩ := hr.own.kind k e
    rw [hc] at h4
    simp at h4
    exact h3 h4.2.symm)).trans h4⟩
/-- Nothing of it turned. -/
theorem Pk.keep {W W' : World} {B b g : Nat} {s : Ro} {f : Fu} (h : Pk W B b g s f) (hk : ∀ k, k < W.heap.size → W'.heap[k]? = W.heap[k]?) : Pk W' B b g s f := by
  obtain ⟨⟨v, hr, hv⟩, hz, hb, hg⟩ := h
  exact ⟨⟨v, hr.but (hk b (lt_of_block hr.row)) (fun k h => hk k (hr.own.lt k h)), hv⟩, (hk g hz.lt).trans hz, hb, hg⟩
theorem Pk.under {W W' : World} {B b g : Nat} {s : Ro} {f : Fu} (h : Pk W B b g s f) (hk : Below W.heap.size W W') : Pk W' B b g s f := h.keep hk.block
theorem Pk.drewN {W : World} {B b g n : Nat} {s : Ro} {f : Fu} (h : Pk W B b g s f) : Pk (W.drewN n) B b g s f := h.keep (fun _ _ => rfl)
/-- A cell of another block is written. -/
theorem Pk.set {W : World} {B b g X i : Nat} {s : Ro} {f : Fu} {cur : Array Value} {t : TypeId} {u : Value} (h : Pk W B b g s f) (hX : W.heap[X]? = some (.cells cur t (0, 0))) (h1 : t ≠ 59) (h2 : t ≠ 57) (h3 : t ≠ 3) : Pk (W.setCell ⟨X, i, none⟩ u) B b g s f := by
  obtain ⟨⟨v, hr, hv⟩, hz, hb, hg⟩ := h
  have k1 : b ≠ X := fun e => by
    have h4 := hr.row
    rw [e, hX] at h4
    simp at h4
    exact h1 h4.2
  have k2 : g ≠ X := fun e => by
    unfold Fz at hz
    rw [e, hX] at hz
    simp at hz
    exact h2 hz.2
  have k3 : ∀ k, v.ownBlock = some k → k ≠ X := fun k hk e => by
    obtain ⟨c, hc⟩ := hr.own.kind k hk
    rw [e, hX] at hc
    simp at hc
    exact h3 hc.2
  refine ⟨⟨v, hr.but (Below.heap_setCell _ _ _ _ k1) (fun k hk => Below.heap_setCell _ _ _ _ (k3 k hk)), hv⟩, ?_, hb, hg⟩
  unfold Fz
  rw [Below.heap_setCell _ _ _ _ k2]
  exact hz
theorem pk_new (B g : Nat) (f : Fu) (w : World) (hz : Fz w g 57 f) (hg : B ≤ g) : Calls Try.prog 9 #[.pointer (some ⟨g, 0, none⟩)] w fun e w' => ∃ b, e = .returned (.pointer (some ⟨b, 0, none⟩)) ∧ Pk w' B b g ⟨0, 0, [], 0⟩ f ∧ Below w.heap.size w w' :=
  (pnew_any g w).mono fun e w' ⟨he, hr, hb, _⟩ => ⟨w.heap.size, he, ⟨⟨_, hr, fun k hk => by cases hk⟩, (hb.block g hz.lt).trans hz, by have := hz.lt; omega, hg⟩, hb⟩
theorem pk_call (B b g : Nat) (s : Ro) (f : Fu) (gen slot : Int) (w : World) (h : Pk w B b g s f) (hf : Fine f) (hwr : 0 ≤ s.writes ∧ s.writes ≤ 1000000) :
    Calls Try.prog 22 #[.pointer (some ⟨b, 0, none⟩), .int .i64 gen, .int .i64 slot] w fun e w' => e = .returned (.int .i64 (toldC s f gen slot)) ∧ Pk w' B b g (leftC s f gen slot) (fuseC f gen slot) ∧ Turn B w w' := by
  have hne := h.ne
  have hle := h.le
  obtain ⟨⟨v, hr, hv⟩, hz, hb, hg⟩ := h
  exact (pcall_any b g s f gen slot v w hr hz hne hf hwr).mono fun e w' ⟨he, ⟨v', hr', hn⟩, hz', hb'⟩ => ⟨he, ⟨⟨v', hr', hn.ge hv hle⟩, hz', hb, hg⟩, .of_buto hr hz hb hg hv (.of_but hb')⟩
theorem pk_script (B b g : Nat) (s : Ro) (f : Fu) (l : Value) (xs : List Int) (w : World) (h : Pk w B b g s f) (hl : IntsI w l xs) (hn : s.outs.length + xs.length ≤ 100000000) :
    Calls Try.prog 12 #[.pointer (some ⟨b, 0, none⟩), l] w fun e w' => e = .returned (.tuple #[]) ∧ Pk w' B b g { s with outs := s.outs ++ xs } f ∧ Turn B w w' := by
  have hne := h.ne
  have hle := h.le
  obtain ⟨⟨v, hr, hv⟩, hz, hb, hg⟩ := h
  refine (pscript_any b g s l xs v w hr hl hn).mono fun e w' ⟨he, ⟨v', hr', hn⟩, hb'⟩ => ⟨he, ⟨⟨v', hr', hn.ge hv hle⟩, ?_, hb, hg⟩, .of_buto hr hz hb hg hv hb'.wide⟩
  exact (hb'.block g hz.lt (Ne.symm hne) (Ne.symm hne) (hr.ng hz (by decide))).trans hz
theorem pk_writes (B b g : Nat) (s : Ro) (f : Fu) (w : World) (h : Pk w B b g s f) : Calls Try.prog 19 #[.pointer (some ⟨b, 0, none⟩)] w fun e w' => e = .returned (.int .i64 s.writes) ∧ w = w' := by
  obtain ⟨v, hr, _⟩ := h.ro
  exact pwrites_any b g s v w hr
theorem pk_cell (B b g : Nat) (s : Ro) (f : Fu) (w : World) (h : Pk w B b g s f) : Calls Try.prog 18 #[.pointer (some ⟨b, 0, none⟩)] w fun e w' => e = .returned (.agg #[.int .i64 s.slot, .int .i64 s.gen]) ∧ Below w.heap.size w w' := by
  obtain ⟨v, hr, _⟩ := h.ro
  exact (pcell_any b g s v w hr).mono fun e w' ⟨he, hb, _⟩ => ⟨he, hb⟩
theorem pk_only {B b g : Nat} {s : Ro} {f f' : Fu} {w w' : World} (h : Pk w B b g s f) (hz : Fz w' g 57 f') (ho : Only g w w') : Pk w' B b g s f' ∧ Turn B w w' := by
  have hne := h.ne
  obtain ⟨⟨v, hr, hv⟩, hz0, hb, hg⟩ := h
  exact ⟨⟨⟨v, hr.only hz0 hne ho, hv⟩, hz, hb, hg⟩, .of_buto hr hz0 hb hg hv (.of_but (.only ho))⟩
theorem pk_arm (B b g : Nat) (s : Ro) (f : Fu) (n : Int) (w : World) (h : Pk w B b g s f) : Calls Try.prog 14 #[.pointer (some ⟨g, 0, none⟩), .int .i64 n] w fun e w' => e = .returned (.tuple #[]) ∧ Pk w' B b g s ⟨true, max n 0, false, f.count⟩ ∧ Turn B w w' :=
  (arm_any g n f w h.fz).mono fun _ _ ⟨he, hz, ho⟩ => ⟨he, pk_only h hz ho⟩
theorem pk_reset (B b g : Nat) (s : Ro) (f : Fu) (w : World) (h : Pk w B b g s f) : Calls Try.prog 16 #[.pointer (some ⟨g, 0, none⟩)] w fun e w' => e = .returned (.tuple #[]) ∧ Pk w' B b g s ⟨false, 0, false, f.count⟩ ∧ Turn B w w' :=
  (reset_any g f w h.fz).mono fun _ _ ⟨he, hz, ho⟩ => ⟨he, pk_only h hz ho⟩
theorem pk_count (B b g : Nat) (s : Ro) (f : Fu) (w : World) (h : Pk w B b g s f) : Calls Try.prog 20 #[.pointer (some ⟨g, 0, none⟩)] w fun e w' => e = .returned (.int .i64 f.count) ∧ w = w' := count_any g f w h.fz
/-- Bounds behind n calls. -/
structure Bd (n : Nat) (s : Ro) (f : Fu) : Prop where
  left : f.armed = true → 0 ≤ f.left ∧ f.left ≤ 9223372036854775807
  blown : f.blown = true → f.armed = true ∧ f.left = 0
  count : 0 ≤ f.count ∧ f.count ≤ n
  writes : 0 ≤ s.writes ∧ s.writes ≤ n
  outs : s.outs.length ≤ 100 * n
theorem Bd.fine {n : Nat} {s : Ro} {f : Fu} (h : Bd n s f) (hn : n < 1000000) : Fine f := ⟨h.left, h.blown, by have := h.count; omega⟩
theorem Bd.wr {n : Nat} {s : Ro} {f : Fu} (h : Bd n s f) (hn : n < 1000000) : 0 ≤ s.writes ∧ s.writes ≤ 1000000 := by have := h.writes; omega
theorem bd0 : Bd 0 ⟨0, 0, [], 0⟩ ⟨false, 0, false, 0⟩ := ⟨fun h => (by cases h), fun h => (by cases h), by simp, by simp, by simp⟩
theorem callS_outs (s : Ro) (gen slot : Int) : (callS s gen slot).outs = s.outs.tail := by
  unfold callS
  split
  · rfl
  · split <;> rfl
theorem callS_writes (s : Ro) (gen slot : Int) : (callS s gen slot).writes = s.writes ∨ (callS s gen slot).writes = s.writes + 1 := by
  unfold callS
  split
  · exact .inl rfl
  · split
    · exact .inr rfl
    · exact .inl rfl
theorem Bd.call {n : Nat} {s : Ro} {f : Fu} (h : Bd n s f) (gen slot : Int) : Bd (n + 1) (leftC s f gen slot) (fuseC f gen slot) := by
  obtain ⟨h1, h2, h3, h4, h5⟩ := h
  have key : Bd (n + 1) s f := ⟨h1, h2, by omega, by omega, by omega⟩
  unfold leftC fuseC
  by_cases hr : inRange gen slot
  · rw [if_pos hr, if_pos hr]
    unfold spent
    cases hb : bears f with
    | false =>
      rw [if_neg (by decide), if_neg (by decide)]
      simp [bears] at hb
      exact ⟨h1, fun _ => hb, by simp only; omega, by omega, by omega⟩
    | true =>
      rw [if_pos rfl, if_pos rfl]
      have hb : f.armed = true → ¬ f.left = 0 := fun ha h0 => by simp [bears, ha, h0] at hb
      refine ⟨?_, ?_, ?_, ?_, ?_⟩
      · intro ha
        simp only at ha ⊢
        have := hb ha
        have := h1 ha
        rw [if_pos ha]
        omega
      · intro ha
        exact absurd (h2 ha).2 (hb (h2 ha).1)
      · simp only; omega
      · rcases callS_writes s gen slot with e | e <;> rw [e] <;> omega
      · rw [callS_outs, List.length_tail]; omega
  · rw [if_neg hr, if_neg hr]
    exact key
theorem Bd.script {n : Nat} {s : Ro} {f : Fu} (h : Bd n s f) (xs : List Int) (hx : xs.length ≤ 100) : Bd (n + 1) { s with outs := s.outs ++ xs } f := by
  obtain ⟨h1, h2, h3, h4, h5⟩ := h
  exact ⟨h1, h2, by omega, by simp only; omega, by simp only [List.length_append]; omega⟩
theorem Bd.arm {n : Nat} {s : Ro} {f : Fu} (h : Bd n s f) (a : Int) (ha : Fits a) : Bd (n + 1) s ⟨true, max a 0, false, f.count⟩ := by
  obtain ⟨h1, h2, h3, h4, h5⟩ := h
  unfold Fits at ha
  exact ⟨fun _ => by simp only; omega, fun h => (by cases h), by simp only; omega, by omega, by omega⟩
theorem Bd.reset {n : Nat} {s : Ro} {f : Fu} (h : Bd n s f) (l : Int) : Bd (n + 1) s ⟨false, l, false, f.count⟩ := by
  obtain ⟨h1, h2, h3, h4, h5⟩ := h
  exact ⟨fun h => (by cases h), fun h => (by cases h), by simp only; omega, by omega, by omega⟩
theorem Bd.more {n : Nat} {s : Ro} {f : Fu} (h : Bd n s f) : Bd (n + 1) s f := ⟨h.left, h.blown, by have := h.count; omega, by have := h.writes; omega, by have := h.outs; omega⟩
end Go.Proofs.Ytjalmfomeehpgaa
