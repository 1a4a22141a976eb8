/-
  The document's fleet: New, Slot, a slot's Ready and Full, Apply.
-/
import Derived.Test.YthgcpijokdbmhaaFleM
import Derived.Deep.LoopGhost
import Derived.Deep.QuietTactic
import Derived.Deep.RegionHeld3
import Derived.BigQuiet
namespace Go.Proofs.Ythgcpijokdbmhaa
open Go.RowKit

def NewF (F : (Nat → Prop) → World → Nat → List Bool → List Bool → Prop) (w w' : World) (b : Nat) : Prop := ∃ O : Nat → Prop, F O w' b [] [] ∧ (∀ j, O j → w.heap.size ≤ j) ∧ Below w.heap.size w w'
set_option maxRecDepth 100000 in
set_option maxHeartbeats 4000000 in
theorem mnew_any (w : World) : Calls Try.prog 8 #[] w fun e w' => ∃ b, e = .returned (.pointer (some ⟨b, 0, none⟩)) ∧ NewF FlM w w' b := by
  go_enter Try.func8, Try.ntmps8
  go_wp2
  go_ret
  obtain ⟨s, hs⟩ : ∃ s, s = w.heap.size := ⟨_, rfl⟩
  have s1 : (w.alloc (.cells #[.slice none 0 0] 50)).heap.size = s + 1 := by rw [hs]; simp
  have s2 : ((w.alloc (.cells #[.slice none 0 0] 50)).alloc (.cells #[.slice none 0 0] 50)).heap.size = s + 2 := by rw [hs]; simp
  have b2 := below_alloc (w.alloc (.cells #[.slice none 0 0] 50)) (.cells #[.slice none 0 0] 50)
  have b3 := below_alloc ((w.alloc (.cells #[.slice none 0 0] 50)).alloc (.cells #[.slice none 0 0] 50)) (.cells #[.pointer (some ⟨w.heap.size, 0, none⟩), .pointer (some ⟨w.heap.size + 1, 0, none⟩)] 52)
  have n1 := heap_alloc_new w (.cells #[.slice none 0 0] 50)
  have n2 := heap_alloc_new (w.alloc (.cells #[.slice none 0 0] 50)) (.cells #[.slice none 0 0] 50)
  have n3 := heap_alloc_new ((w.alloc (.cells #[.slice none 0 0] 50)).alloc (.cells #[.slice none 0 0] 50)) (.cells #[.pointer (some ⟨w.heap.size, 0, none⟩), .pointer (some ⟨w.heap.size + 1, 0, none⟩)] 52)
  rw [← hs] at n1 n3 b3
  rw [s1] at n2
  rw [s2] at n3
  refine ⟨s + 2, by rw [hs]; simp, fun j => s ≤ j ∧ j < s + 3, ⟨s, s + 1, .slice none 0 0, .slice none 0 0, ?_⟩, fun j h => by rw [← hs]; exact h.1, ?_⟩
  · rw [← hs]
    exact {
      row := n3
      ra := ⟨(b3.block s (by rw [s2]; omega)).trans ((b2.block s (by rw [s1]; omega)).trans n1), ⟨rfl, .inl ⟨rfl, rfl⟩⟩, by simp⟩
      rc := ⟨(b3.block (s + 1) (by rw [s2]; omega)).trans n2, ⟨rfl, .inl ⟨rfl, rfl⟩⟩, by simp⟩
      ne := by omega
      ob := by omega
      oa := by omega
      oc := by omega
      ova := fun j hj => by cases hj
      ovc := fun j hj => by cases hj
      lt := fun j hj => by rw [World.size_alloc, s2]; omega }
  · exact (((Below.refl w.heap.size w).alloc (Nat.le_refl _) _).alloc (by rw [s1]; omega) _).alloc (by rw [s2]; omega) _
/-- Which Set a slot's pointer names; of other slots a new, empty one. -/
def SlotP (O : Nat → Prop) (W : World) (a c x : Nat) (s : Int) : Prop := (s = 0 ∧ x = a) ∨ (s = 1 ∧ x = c) ∨ (s ≠ 0 ∧ s ≠ 1 ∧ O x ∧ RsM W x (.slice none 0 0) [] ∧ x ≠ a ∧ x ≠ c)
theorem SlotP.keep {O : Nat → Prop} {W W' : World} {a c x : Nat} {s : Int} (h : SlotP O W a c x s) (hk : ∀ j, O j → W'.heap[j]? = W.heap[j]?) : SlotP O W' a c x s := by
  rcases h with h | h | ⟨h1, h2, h3, h4, h5⟩
  · exact .inl h
  · exact .inr (.inl h)
  · exact .inr (.inr ⟨h1, h2, h3, ⟨(hk x h3).trans h4.row, ⟨rfl, .inl ⟨rfl, rfl⟩⟩, h4.le⟩, h5⟩)
section
variable {O : Nat → Prop} {W W' : World} {b a c x : Nat} {va vc v' : Value} {k l k' l' : List Bool} {s : Int}
theorem Fm.wider (h : Fm O W b a c va vc k l) (O' : Nat → Prop) (ho : ∀ j, O j → O' j) (hlt : ∀ j, O' j → j < W.heap.size) : Fm O' W b a c va vc k l := ⟨h.row, h.ra, h.rc, h.ne, ho _ h.ob, ho _ h.oa, ho _ h.oc, fun j hj => ho j (h.ova j hj), fun j hj => ho j (h.ovc j hj), hlt⟩
set_option maxRecDepth 100000 in
set_option maxHeartbeats 4000000 in
theorem mslot_any (s : Int) (h : Fm O W b a c va vc k l) : Calls Try.prog 13 #[.pointer (some ⟨b, 0, none⟩), .int .i64 s] W fun e w' => ∃ x O', e = .returned (.pointer (some ⟨x, 0, none⟩)) ∧ Fm O' w' b a c va vc k l ∧ SlotP O' w' a c x s ∧ (∀ j, O' j → O j ∨ W.heap.size ≤ j) ∧ Below W.heap.size W w' := by
  have HF := Lib.hid h
  have k0 := h.c0
  have k1 := h.c1
  clear h
  by_cases h0 : s = 0
  case pos =>
    subst h0
    go_enter Try.func13, Try.ntmps13
    go_wp2
    go_ret
    exact ⟨a, O, rfl, HF.out, .inl ⟨rfl, rfl⟩, fun j h => .inl h, Below.refl _ _⟩
  by_cases h1 : s = 1
  case pos =>
    subst h1
    go_enter Try.func13, Try.ntmps13
    go_wp2
    go_ret
    exact ⟨c, O, rfl, HF.out, .inr (.inl ⟨rfl, rfl⟩), fun j h => .inl h, Below.refl _ _⟩
  have e0 : (s == 0) = false := beq_eq_false_iff_ne.2 h0
  have e1 : (s == 1) = false := beq_eq_false_iff_ne.2 h1
  have HS := Lib.hid (And.intro h0 h1)
  clear h0 h1
  go_enter Try.func13, Try.ntmps13
  go_wp2
  go_ret
  have hb := below_alloc W (.cells #[.slice none 0 0] 50)
  have hf := HF.out.below hb
  refine ⟨W.heap.size, more O W (W.alloc (.cells #[.slice none 0 0] 50)), rfl, hf.wider _ (fun j h => .inl h) (fun j h => h.elim (fun h => Nat.lt_of_lt_of_le (HF.out.lt j h) hb.size) And.right), .inr (.inr ⟨HS.out.1, HS.out.2, .inr ⟨Nat.le_refl _, by simp⟩, ⟨heap_alloc_new W _, ⟨rfl, .inl ⟨rfl, rfl⟩⟩, by simp⟩, ?_, ?_⟩), more_sub _ _ _, hb⟩
  · have := HF.out.lt a HF.out.oa; omega
  · have := HF.out.lt c HF.out.oc; omega
theorem mready_at (i : Int) (on : Bool) (h : Fm O W b a c va vc k l) (hs : SlotP O W a c x s) : Calls Try.prog 14 #[.pointer (some ⟨x, 0, none⟩), .int .i64 i, .bool on] W fun e w' => e = .returned (.bool (decide (isW (slotK s k l) i))) ∧ Turn FlM O W w' b (rdA k s i on) (rdB l s i on) := by
  rcases hs with ⟨rfl, rfl⟩ | ⟨rfl, rfl⟩ | ⟨h1, h2, h3, h4, h5, h6⟩
  · refine (mready_any x va k i on W h.ra).mono fun _ w' ⟨he, v', hr, hn, hb⟩ => ⟨he, more O W w', ⟨_, _, _, _, h.turnA hr hn hb⟩, more_sub _ _ _, ButO.of_one hb h.oa⟩
  · refine (mready_any x vc l i on W h.rc).mono fun _ w' ⟨he, v', hr, hn, hb⟩ => ⟨he, more O W w', ⟨_, _, _, _, h.turnB hr hn hb⟩, more_sub _ _ _, ButO.of_one hb h.oc⟩
  · refine (mready_any x _ [] i on W h4).mono fun _ w' ⟨he, v', hr, hn, hb⟩ => ⟨?_, O, ?_, fun j h => .inl h, ButO.of_one hb h3⟩
    · rw [he]
      unfold slotK
      rw [if_neg h1, if_neg h2]
    · unfold rdA rdB
      rw [if_neg h1, if_neg h2]
      exact ⟨a, c, va, vc, {
        row := (hb.block b (h.lt b h.ob) (ne_type h.row h4.row (by decide))).trans h.row
        ra := h.ra.beside hb h5 h4.row
        rc := h.rc.beside hb h6 h4.row
        ne := h.ne
        ob := h.ob
        oa := h.oa
        oc := h.oc
        ova := h.ova
        ovc := h.ovc
        lt := fun j hj => Nat.lt_of_lt_of_le (h.lt j hj) hb.size }⟩
theorem mfull_at (h : Fm O W b a c va vc k l) (hs : SlotP O W a c x s) : Calls Try.prog 20 #[.pointer (some ⟨x, 0, none⟩)] W fun e w' => e = .returned (.bool (fullL (slotK s k l))) ∧ ∃ m, w' = W.drewN m := by
  rcases hs with ⟨rfl, rfl⟩ | ⟨rfl, rfl⟩ | ⟨h1, h2, h3, h4, h5, h6⟩
  · exact mfull_any x va k W h.ra
  · exact mfull_any x vc l W h.rc
  · unfold slotK
    rw [if_neg h1, if_neg h2]
    exact mfull_any x _ [] W h4
/-- Scale of either Set. -/
theorem fm_scaleA (n : Int) (h : Fm O W b a c va vc k l) : Calls Try.prog 23 #[.pointer (some ⟨a, 0, none⟩), .int .i64 n] W fun e w' => e = .returned (.tuple #[]) ∧ ∃ v', Fm (more O W w') w' b a c v' vc (scaleL k n) l ∧ ButO O W w' :=
  (mscale_any a va k n W h.ra).mono fun _ _ ⟨he, v', hr, hn, hb⟩ => ⟨he, v', h.turnA hr hn hb, ButO.of_one hb h.oa⟩
theorem fm_scaleB (n : Int) (h : Fm O W b a c va vc k l) : Calls Try.prog 23 #[.pointer (some ⟨c, 0, none⟩), .int .i64 n] W fun e w' => e = .returned (.tuple #[]) ∧ ∃ v', Fm (more O W w') w' b a c va v' k (scaleL l n) ∧ ButO O W w' :=
  (mscale_any c vc l n W h.rc).mono fun _ _ ⟨he, v', hr, hn, hb⟩ => ⟨he, v', h.turnB hr hn hb, ButO.of_one hb h.oc⟩
theorem fm_readyA (i : Int) (on : Bool) (h : Fm O W b a c va vc k l) : Calls Try.prog 14 #[.pointer (some ⟨a, 0, none⟩), .int .i64 i, .bool on] W fun e w' => e = .returned (.bool (decide (isW k i))) ∧ ∃ v', Fm (more O W w') w' b a c v' vc (readyL k i on) l ∧ ButO O W w' :=
  (mready_any a va k i on W h.ra).mono fun _ _ ⟨he, v', hr, hn, hb⟩ => ⟨he, v', h.turnA hr hn hb, ButO.of_one hb h.oa⟩
theorem fm_readyB (i : Int) (on : Bool) (h : Fm O W b a c va vc k l) : Calls Try.prog 14 #[.pointer (some ⟨c, 0, none⟩), .int .i64 i, .bool on] W fun e w' => e = .returned (.bool (decide (isW l i))) ∧ ∃ v', Fm (more O W w') w' b a c va v' k (readyL l i on) ∧ ButO O W w' :=
  (mready_any c vc l i on W h.rc).mono fun _ _ ⟨he, v', hr, hn, hb⟩ => ⟨he, v', h.turnB hr hn hb, ButO.of_one hb h.oc⟩
theorem below_drew1 (W : World) : Below W.heap.size W W.drew := ⟨rfl, rfl, rfl, Nat.le_refl _, fun _ _ => rfl⟩
end
end Go.Proofs.Ythgcpijokdbmhaa
