/-
  Package replica's calls as a bundle (Pkg), and a Set of it behind a world (PS).
-/
import Derived.Test.YtfmcfneaeaokeaaRepMB
import Derived.Test.YtfmcfneaeaokeaaRepK
namespace Go.Proofs.Ytfmcfneaeaokeaa
open Go.RowKit

/-- R is how a Set of the package lies in memory, in one block; its calls are what the document says. -/
structure Pkg (R : World → Nat → List Bool → Prop) : Prop where
  kind : ∀ {W b l}, R W b l → ∃ c, W.heap[b]? = some (.cells c 44 (0, 0))
  le : ∀ {W b l}, R W b l → l.length ≤ 32
  keep : ∀ {W W' : World} {b l}, R W b l → W'.heap[b]? = W.heap[b]? → R W' b l
  new : ∀ W, Calls Try.prog 7 #[] W fun e w' => ∃ b, W.heap.size ≤ b ∧ e = .returned (.pointer (some ⟨b, 0, none⟩)) ∧ R w' b [] ∧ Below W.heap.size W w'
  scale : ∀ {W b l} (n : Int), R W b l → Calls Try.prog 9 #[.pointer (some ⟨b, 0, none⟩), .int .i64 n] W fun e w' => e = .returned (.tuple #[]) ∧ R w' b (scaleL l n) ∧ But1 b W w'
  ready : ∀ {W b l} (i : Int) (on : Bool), R W b l → Calls Try.prog 11 #[.pointer (some ⟨b, 0, none⟩), .int .i64 i, .bool on] W fun e w' => e = .returned (.bool (decide (isW l i))) ∧ R w' b (readyL l i on) ∧ But1 b W w'
  copy : ∀ {W b l}, R W b l → Calls Try.prog 13 #[.pointer (some ⟨b, 0, none⟩)] W fun e w' => ∃ c, W.heap.size ≤ c ∧ e = .returned (.pointer (some ⟨c, 0, none⟩)) ∧ R w' c l ∧ Below W.heap.size W w'
  want : ∀ {W b l}, R W b l → Calls Try.prog 14 #[.pointer (some ⟨b, 0, none⟩)] W fun e w' => e = .returned (.int .i64 (l.length : Int)) ∧ W = w'
  count : ∀ {W b l}, R W b l → Calls Try.prog 15 #[.pointer (some ⟨b, 0, none⟩)] W fun e w' => e = .returned (.int .i64 (cntL l : Int)) ∧ W = w'
  full : ∀ {W b l}, R W b l → Calls Try.prog 17 #[.pointer (some ⟨b, 0, none⟩)] W fun e w' => e = .returned (.bool (fullL l)) ∧ ∃ m, w' = W.drewN m
/-- A Set of the package, behind the world w. -/
structure PS (R : World → Nat → List Bool → Prop) (w W : World) (b : Nat) (l : List Bool) : Prop where
  r : R W b l
  low : Below w.heap.size w W
  hb : w.heap.size ≤ b
section
variable {R : World → Nat → List Bool → Prop} {w W W' : World} {b : Nat} {l : List Bool}
theorem Pkg.lt (hp : Pkg R) (h : R W b l) : b < W.heap.size := by
  obtain ⟨c, hc⟩ := hp.kind h
  exact lt_of_block hc
theorem below_drewN (W : World) (n : Nat) : Below W.heap.size W (W.drewN n) := ⟨rfl, by simp, rfl, by simp, fun _ _ => by simp⟩
theorem PS.keep (hp : Pkg R) (h : PS R w W b l) (hb : Below W.heap.size W W') : PS R w W' b l := ⟨hp.keep h.r (hb.block b (hp.lt h.r)), h.low.trans (hb.mono h.low.size), h.hb⟩
theorem PS.drewN (hp : Pkg R) (h : PS R w W b l) (n : Nat) : PS R w (W.drewN n) b l := h.keep hp (below_drewN W n)
theorem PS.but {l' : List Bool} (h : PS R w W b l) (hr : R W' b l') (hb : But1 b W W') : PS R w W' b l' := ⟨hr, hb.below h.low h.hb h.low.size, h.hb⟩
theorem ps_new (hp : Pkg R) (w : World) : Calls Try.prog 7 #[] w fun e w' => ∃ b, e = .returned (.pointer (some ⟨b, 0, none⟩)) ∧ PS R w w' b [] :=
  (hp.new w).mono fun _ _ ⟨b, h1, he, hr, hb⟩ => ⟨b, he, ⟨hr, hb, h1⟩⟩
theorem ps_scale (hp : Pkg R) (n : Int) (h : PS R w W b l) : Calls Try.prog 9 #[.pointer (some ⟨b, 0, none⟩), .int .i64 n] W fun e w' => e = .returned (.tuple #[]) ∧ PS R w w' b (scaleL l n) ∧ But1 b W w' :=
  (hp.scale n h.r).mono fun _ _ ⟨he, hr, hb⟩ => ⟨he, h.but hr hb, hb⟩
theorem ps_ready (hp : Pkg R) (i : Int) (on : Bool) (h : PS R w W b l) : Calls Try.prog 11 #[.pointer (some ⟨b, 0, none⟩), .int .i64 i, .bool on] W fun e w' => e = .returned (.bool (decide (isW l i))) ∧ PS R w w' b (readyL l i on) ∧ But1 b W w' :=
  (hp.ready i on h.r).mono fun _ _ ⟨he, hr, hb⟩ => ⟨he, h.but hr hb, hb⟩
theorem ps_full (hp : Pkg R) (h : PS R w W b l) : Calls Try.prog 17 #[.pointer (some ⟨b, 0, none⟩)] W fun e w' => e = .returned (.bool (fullL l)) ∧ PS R w w' b l ∧ ∃ m, w' = W.drewN m :=
  (hp.full h.r).mono fun _ _ ⟨he, m, hm⟩ => ⟨he, by rw [hm]; exact h.drewN hp m, m, hm⟩
theorem want_q (hp : Pkg R) (h : PS R w W b l) (n : Nat) : Calls Try.prog 14 #[.pointer (some ⟨b, 0, none⟩)] (W.drewN n) fun e w' => e = .returned (.int .i64 (l.length : Int)) ∧ ∃ m, w' = W.drewN m :=
  Calls.quiet_of_same ((hp.want (h.drewN hp n).r).mono fun _ _ ⟨he, hw⟩ => ⟨he, hw.symm⟩)
theorem count_q (hp : Pkg R) (h : PS R w W b l) (n : Nat) : Calls Try.prog 15 #[.pointer (some ⟨b, 0, none⟩)] (W.drewN n) fun e w' => e = .returned (.int .i64 (cntL l : Int)) ∧ ∃ m, w' = W.drewN m :=
  Calls.quiet_of_same ((hp.count (h.drewN hp n).r).mono fun _ _ ⟨he, hw⟩ => ⟨he, hw.symm⟩)
theorem full_q (hp : Pkg R) (h : PS R w W b l) (n : Nat) : Calls Try.prog 17 #[.pointer (some ⟨b, 0, none⟩)] (W.drewN n) fun e w' => e = .returned (.bool (fullL l)) ∧ ∃ m, w' = W.drewN m :=
  Calls.quiet_of (hp.full (h.drewN hp n).r)
theorem MapB.ne {m n sz : Nat} {g : Int → Option Bool} (hp : Pkg R) (h : MapB W m n g sz) (hr : R W b l) : m ≠ b := fun e => by
  obtain ⟨es, c, h1⟩ := h.blk
  obtain ⟨c', h2⟩ := hp.kind hr
  rw [e, h2] at h1
  cases h1
theorem MapB.but {m n sz : Nat} {g : Int → Option Bool} (hp : Pkg R) (h : MapB W m n g sz) (hr : R W b l) (hb : But1 b W W') : MapB W' m n g sz := h.keep (hb.block m h.lt (h.ne hp hr))
/-- The map was written: the Set is as it was. -/
theorem PS.grown {m : Nat} (hp : Pkg R) (h : PS R w W b l) (hg : W.grownBy W' (some m)) (hm : m ≠ b) (hw : w.heap.size ≤ m) : PS R w W' b l :=
  ⟨hp.keep h.r (hg.block b (hp.lt h.r) (fun e => hm (by injection e with e; exact e.symm))), ⟨hg.os.trans h.low.os, hg.tape.trans h.low.tape, hg.output.trans h.low.output, Nat.le_trans h.low.size hg.size, fun k hk => (hg.block k (Nat.lt_of_lt_of_le hk h.low.size) (fun e => by injection e with e; omega)).trans (h.low.block k hk)⟩, h.hb⟩
end
end Go.Proofs.Ytfmcfneaeaokeaa
