/-
  Both sides in one memory, and an act beside them.
-/
import Derived.Test.YtfmcfneaeaokeaaGof
namespace Go.Proofs.Ytfmcfneaeaokeaa
open Go.RowKit

/-- An act of its own in memory. -/
def ActA (W : World) (k : Nat) (kd nm : Int) (on : Bool) : Prop := W.heap[k]? = some (.cells #[.int .i64 kd, .int .i64 nm, .bool on] 31 (0, 0))
theorem ne_type {W : World} {k j : Nat} {c d : Array Value} {t u : TypeId} (h1 : W.heap[k]? = some (.cells c t (0, 0))) (h2 : W.heap[j]? = some (.cells d u (0, 0))) (ht : t ≠ u) : k ≠ j := fun e => by
  rw [e, h2] at h1
  simp at h1
  exact ht h1.2.symm
/-- Both sides and an act, behind the world w. -/
structure Both (R : World → Nat → List Bool → Prop) (w W : World) (b bm A : Nat) (l m : List Bool) (kd nm : Int) (on : Bool) : Prop where
  ps : PS R w W b l
  rm : ∃ v, RsM W bm v m ∧ ∀ k, v.ownBlock = some k → w.heap.size ≤ k
  hbm : w.heap.size ≤ bm
  act : ActA W A kd nm on
section
variable {R : World → Nat → List Bool → Prop} {w W W' : World} {b bm A : Nat} {l m l' m' : List Bool} {kd nm : Int} {on : Bool}
theorem ActA.lt (h : ActA W A kd nm on) : A < W.heap.size := lt_of_block h
theorem ActA.c0 (h : ActA W A kd nm on) : W.cell? ⟨A, 0, none⟩ = some (.int .i64 kd) := by rw [cell_of_row W A 0 _ _ _ h]; rfl
theorem ActA.c1 (h : ActA W A kd nm on) : W.cell? ⟨A, 1, none⟩ = some (.int .i64 nm) := by rw [cell_of_row W A 1 _ _ _ h]; rfl
theorem ActA.c2 (h : ActA W A kd nm on) : W.cell? ⟨A, 2, none⟩ = some (.bool on) := by rw [cell_of_row W A 2 _ _ _ h]; rfl
theorem ActA.cs (h : ActA W A kd nm on) : W.cell? ⟨A, 1, none⟩ = some (.int .i64 nm) ∧ W.cell? ⟨A, 2, none⟩ = some (.bool on) := ⟨h.c1, h.c2⟩
theorem Both.keep (hp : Pkg R) (h : Both R w W b bm A l m kd nm on) (hb : Below W.heap.size W W') : Both R w W' b bm A l m kd nm on := by
  obtain ⟨v, h1, h2⟩ := h.rm
  exact ⟨h.ps.keep hp hb, ⟨v, h1.keep hb.block, h2⟩, h.hbm, (hb.block A h.act.lt).trans h.act⟩
/-- The package's side turned. -/
theorem Both.first (hp : Pkg R) (h : Both R w W b bm A l m kd nm on) (hr : R W' b l') (hb : But1 b W W') : Both R w W' b bm A l' m kd nm on := by
  obtain ⟨v, h1, h2⟩ := h.rm
  obtain ⟨c, hc⟩ := hp.kind h.ps.r
  refine ⟨h.ps.but hr hb, ⟨v, ⟨(hb.block bm (lt_of_block h1.row) (ne_type h1.row hc (by decide))).trans h1.row, h1.own.block fun k hk => ?_, h1.le⟩, h2⟩, h.hbm, (hb.block A h.act.lt (ne_type h.act hc (by decide))).trans h.act⟩
  obtain ⟨_, h4, c4, h5⟩ := h1.own.own k hk
  exact hb.block k h4 (ne_type h5 hc (by decide))
/-- The document's side turned. -/
theorem Both.second (hp : Pkg R) (h : Both R w W b bm A l m kd nm on) {v v' : Value} (h1 : RsM W bm v m) (h2 : ∀ k, v.ownBlock = some k → w.heap.size ≤ k) (hr : RsM W' bm v' m') (hn : NewV W v v') (hb : But1 bm W W') : Both R w W' b bm A l m' kd nm on := by
  obtain ⟨c, hc⟩ := hp.kind h.ps.r
  have hlt := hp.lt h.ps.r
  refine ⟨⟨hp.keep h.ps.r (hb.block b hlt (ne_type hc h1.row (by decide))), hb.below h.ps.low h.hbm h.ps.low.size, h.ps.hb⟩, ⟨v', hr, fun k hk => ?_⟩, h.hbm, (hb.block A h.act.lt (ne_type h.act h1.row (by decide))).trans h.act⟩
  rcases hn k hk with e | e
  · exact h2 k e
  · exact Nat.le_trans h.ps.low.size e
theorem both_scale1 (hp : Pkg R) (n : Int) (h : Both R w W b bm A l m kd nm on) : Calls Try.prog 9 #[.pointer (some ⟨b, 0, none⟩), .int .i64 n] W fun e w' => e = .returned (.tuple #[]) ∧ Both R w w' b bm A (scaleL l n) m kd nm on :=
  (hp.scale n h.ps.r).mono fun _ _ ⟨he, hr, hb⟩ => ⟨he, h.first hp hr hb⟩
theorem both_scale2 (hp : Pkg R) (n : Int) (h : Both R w W b bm A l m kd nm on) : Calls Try.prog 10 #[.pointer (some ⟨bm, 0, none⟩), .int .i64 n] W fun e w' => e = .returned (.tuple #[]) ∧ Both R w w' b bm A l (scaleL m n) kd nm on := by
  obtain ⟨v, h1, h2⟩ := h.rm
  exact (mscale_any bm v m n W h1).mono fun _ _ ⟨he, v', hr, hn, hb⟩ => ⟨he, h.second hp h1 h2 hr hn hb⟩
theorem both_ready1 (hp : Pkg R) (i : Int) (x : Bool) (h : Both R w W b bm A l m kd nm on) : Calls Try.prog 11 #[.pointer (some ⟨b, 0, none⟩), .int .i64 i, .bool x] W fun e w' => e = .returned (.bool (decide (isW l i))) ∧ Both R w w' b bm A (readyL l i x) m kd nm on :=
  (hp.ready i x h.ps.r).mono fun _ _ ⟨he, hr, hb⟩ => ⟨he, h.first hp hr hb⟩
theorem both_ready2 (hp : Pkg R) (i : Int) (x : Bool) (h : Both R w W b bm A l m kd nm on) : Calls Try.prog 12 #[.pointer (some ⟨bm, 0, none⟩), .int .i64 i, .bool x] W fun e w' => e = .returned (.bool (decide (isW m i))) ∧ Both R w w' b bm A l (readyL m i x) kd nm on := by
  obtain ⟨v, h1, h2⟩ := h.rm
  exact (mready_any bm v m i x W h1).mono fun _ _ ⟨he, v', hr, hn, hb⟩ => ⟨he, h.second hp h1 h2 hr hn hb⟩
/-- A copy stands in the Set's place; the elder one goes its own ways (k: what it is by then). -/
structure Twin (R : World → Nat → List Bool → Prop) (w W : World) (b c bm A : Nat) (k l m : List Bool) (kd nm : Int) (on : Bool) : Prop where
  both : Both R w W c bm A l m kd nm on
  old : R W b k
  hb : w.heap.size ≤ b
  ne : b ≠ c
theorem twin_copy (hp : Pkg R) (h : Both R w W b bm A l m kd nm on) : Calls Try.prog 13 #[.pointer (some ⟨b, 0, none⟩)] W fun e w' => ∃ c, e = .returned (.pointer (some ⟨c, 0, none⟩)) ∧ Twin R w w' b c bm A l l m kd nm on :=
  (hp.copy h.ps.r).mono fun _ w' ⟨c, h1, he, hr, hb⟩ => by
    have hlt := hp.lt h.ps.r
    have hk := h.keep hp hb
    exact ⟨c, he, ⟨⟨⟨hr, hk.ps.low, Nat.le_trans h.ps.low.size h1⟩, hk.rm, hk.hbm, hk.act⟩, hk.ps.r, h.ps.hb, by omega⟩⟩
theorem Twin.turn (hp : Pkg R) {c : Nat} {k k' : List Bool} (h : Twin R w W b c bm A k l m kd nm on) (hr : R W' b k') (hb : But1 b W W') : Twin R w W' b c bm A k' l m kd nm on := by
  have hlt := hp.lt h.both.ps.r
  have h5 : Both R w W' b bm A k' m kd nm on := Both.first (l := k) hp ⟨⟨h.old, h.both.ps.low, h.hb⟩, h.both.rm, h.both.hbm, h.both.act⟩ hr hb
  exact ⟨⟨⟨hp.keep h.both.ps.r (hb.block c hlt (Ne.symm h.ne)), h5.ps.low, h.both.ps.hb⟩, h5.rm, h5.hbm, h5.act⟩, hr, h.hb, h.ne⟩
theorem twin_scale (hp : Pkg R) (n : Int) {c : Nat} {k : List Bool} (h : Twin R w W b c bm A k l m kd nm on) : Calls Try.prog 9 #[.pointer (some ⟨b, 0, none⟩), .int .i64 n] W fun e w' => e = .returned (.tuple #[]) ∧ Twin R w w' b c bm A (scaleL k n) l m kd nm on :=
  (hp.scale n h.old).mono fun _ _ ⟨he, hr, hb⟩ => ⟨he, h.turn hp hr hb⟩
theorem twin_ready (hp : Pkg R) (i : Int) (x : Bool) {c : Nat} {k : List Bool} (h : Twin R w W b c bm A k l m kd nm on) : Calls Try.prog 11 #[.pointer (some ⟨b, 0, none⟩), .int .i64 i, .bool x] W fun e w' => e = .returned (.bool (decide (isW k i))) ∧ Twin R w w' b c bm A (readyL k i x) l m kd nm on :=
  (hp.ready i x h.old).mono fun _ _ ⟨he, hr, hb⟩ => ⟨he, h.turn hp hr hb⟩
end
end Go.Proofs.Ytfmcfneaeaokeaa
