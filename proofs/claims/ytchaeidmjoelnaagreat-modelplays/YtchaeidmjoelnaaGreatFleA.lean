/-
  Plain facts of a fleet: k and l say which of the wanted ones of the slots 0 and 1 are ready.
  What calls leave of several blocks (ButO, Turn); the document's fleet in memory: its block, its two Sets.
  The document's fleet: New, Slot, a slot's Ready and Full, Apply.
  The document's fleet: Apply, Fill.
  The document's fleet: View.
  Equality of views, and of pairs of numbers.
-/
import Derived.Test.YtchaeidmjoelnaaGreatRepA
import Derived.Deep.LoopGhost
import Derived.Deep.QuietTactic
import Derived.Deep.RegionHeld3
import Derived.BigQuiet
import Derived.Deep.Cut
import Derived.Laws.StructEq
import Derived.ChangeKeysEq
namespace Go.Proofs.YtchaeidmjoelnaaGreat

/-- A slot's list; of others none. -/
def slotK (s : Int) (k l : List Bool) : List Bool := if s = 0 then k else if s = 1 then l else []
/-- Slot 0's list, slot 1's list, behind a Ready of slot s. -/
def rdA (k : List Bool) (s i : Int) (on : Bool) : List Bool := if s = 0 then readyL k i on else k
def rdB (l : List Bool) (s i : Int) (on : Bool) : List Bool := if s = 1 then readyL l i on else l
theorem rdA_len (k : List Bool) (s i : Int) (on : Bool) : (rdA k s i on).length = k.length := by
  unfold rdA
  split
  · exact readyL_len _ _ _
  · rfl
theorem rdB_len (k : List Bool) (s i : Int) (on : Bool) : (rdB k s i on).length = k.length := by
  unfold rdB
  split
  · exact readyL_len _ _ _
  · rfl
theorem slotK_le {s : Int} {k l : List Bool} (h : k.length ≤ 32 ∧ l.length ≤ 32) : (slotK s k l).length ≤ 32 := by
  unfold slotK
  split
  · exact h.1
  · split
    · exact h.2
    · exact Nat.zero_le _
theorem scaleL_le (l : List Bool) (n : Int) : (scaleL l n).length ≤ 32 := by rw [scaleL_len]; exact clampN_le n
/-- All are ready. -/
def fillL (k : List Bool) : List Bool := List.replicate k.length true
theorem fillL_len (k : List Bool) : (fillL k).length = k.length := by unfold fillL; simp
theorem fillL_cnt (k : List Bool) : cntL (fillL k) = k.length := by unfold fillL cntL; simp [List.countP_replicate]
/-- The first i of them are made ready, one by one. -/
def fillTo (k : List Bool) : Nat → List Bool
  | 0 => k
  | i + 1 => readyL (fillTo k i) i true
theorem fillTo_len (k : List Bool) : ∀ i, (fillTo k i).length = k.length
  | 0 => rfl
  | i + 1 => by rw [fillTo, readyL_len, fillTo_len k i]
theorem fillTo_at (k : List Bool) (j : Nat) (hj : j < k.length) : ∀ i, (fillTo k i).getD j false = if j < i then true else k.getD j false
  | 0 => by rw [if_neg (by omega)]; rfl
  | i + 1 => by
    rw [fillTo, ready_getD]
    by_cases h : j = i
    · subst h
      rw [if_pos ⟨by unfold isW; rw [fillTo_len]; omega, rfl⟩, if_pos (by omega)]
    · rw [if_neg (fun h2 => h (by omega)), fillTo_at k j hj i]
      by_cases h2 : j < i
      · rw [if_pos h2, if_pos (by omega)]
      · rw [if_neg h2, if_neg (by omega)]
theorem fillTo_all (k : List Bool) (i : Nat) (h : k.length ≤ i) : fillTo k i = fillL k := by
  refine ext_getD (by rw [fillTo_len, fillL_len]) (fun j => ?_)
  by_cases hj : j < k.length
  · rw [fillTo_at k j hj, if_pos (by omega)]
    unfold fillL
    rw [List.getD_eq_getElem?_getD, List.getElem?_replicate, if_pos hj]
    rfl
  · rw [List.getD_eq_getElem?_getD, List.getD_eq_getElem?_getD, List.getElem?_eq_none (by rw [fillTo_len]; omega), List.getElem?_eq_none (by rw [fillL_len]; omega)]
theorem isW_nil (i : Int) : ¬ isW [] i := by unfold isW; simp
theorem full_nil : fullL [] = false := by decide
end Go.Proofs.YtchaeidmjoelnaaGreat
namespace Go.Proofs.YtchaeidmjoelnaaGreat
open Go.RowKit

/-- Nothing turned but blocks of O, of those that were. -/
structure ButO (O : Nat → Prop) (w w' : World) : Prop where
  os : w'.os = w.os
  tape : w'.tape = w.tape
  output : w'.output = w.output
  size : w.heap.size ≤ w'.heap.size
  block : ∀ j, j < w.heap.size → ¬ O j → w'.heap[j]? = w.heap[j]?
theorem ButO.refl (O : Nat → Prop) (w : World) : ButO O w w := ⟨rfl, rfl, rfl, Nat.le_refl _, fun _ _ _ => rfl⟩
theorem ButO.of_below {O : Nat → Prop} {w w' : World} (h : Below w.heap.size w w') : ButO O w w' := ⟨h.os, h.tape, h.output, h.size, fun k hk _ => h.block k hk⟩
theorem ButO.of_one {O : Nat → Prop} {b : Nat} {w w' : World} (h : But1 b w w') (hb : O b) : ButO O w w' := ⟨h.os, h.tape, h.output, h.size, fun k hk hn => h.block k hk (fun e => hn (e ▸ hb))⟩
theorem ButO.trans {O O' : Nat → Prop} {a w w' : World} (h1 : ButO O a w) (h2 : ButO O' w w') (ho : ∀ j, O' j → O j ∨ a.heap.size ≤ j) : ButO O a w' := ⟨h2.os.trans h1.os, h2.tape.trans h1.tape, h2.output.trans h1.output, Nat.le_trans h1.size h2.size, fun k hk hn => (h2.block k (Nat.lt_of_lt_of_le hk h1.size) (fun h => (ho k h).elim hn (fun h => by omega))).trans (h1.block k hk hn)⟩
theorem ButO.below {O : Nat → Prop} {B : Nat} {a w w' : World} (h : ButO O w w') (hb : Below B a w) (h1 : ∀ j, O j → B ≤ j) (hB : B ≤ w.heap.size) : Below B a w' :=
  ⟨h.os.trans hb.os, h.tape.trans hb.tape, h.output.trans hb.output, Nat.le_trans hb.size h.size, fun k hk => (h.block k (by omega) (fun h2 => by have := h1 k h2; omega)).trans (hb.block k hk)⟩
/-- What a call leaves of a fleet (F: how it lies in memory, in blocks of O): its lists, in blocks that it had or that are new; nothing else turned. -/
def Turn (F : (Nat → Prop) → World → Nat → List Bool → List Bool → Prop) (O : Nat → Prop) (W W' : World) (b : Nat) (k l : List Bool) : Prop :=
  ∃ O' : Nat → Prop, F O' W' b k l ∧ (∀ j, O' j → O j ∨ W.heap.size ≤ j) ∧ ButO O W W'
/-- The document's fleet: block b, the Sets a and c. -/
structure Fm (O : Nat → Prop) (W : World) (b a c : Nat) (va vc : Value) (k l : List Bool) : Prop where
  row : W.heap[b]? = some (.cells #[.pointer (some ⟨a, 0, none⟩), .pointer (some ⟨c, 0, none⟩)] 94 (0, 0))
  ra : RsM W a va k
  rc : RsM W c vc l
  ne : a ≠ c
  ob : O b
  oa : O a
  oc : O c
  ova : ∀ j, va.ownBlock = some j → O j
  ovc : ∀ j, vc.ownBlock = some j → O j
  lt : ∀ j, O j → j < W.heap.size
def FlM (O : Nat → Prop) (W : World) (b : Nat) (k l : List Bool) : Prop := ∃ a c va vc, Fm O W b a c va vc k l
/-- O, and what is new. -/
def more (O : Nat → Prop) (W W' : World) : Nat → Prop := fun j => O j ∨ (W.heap.size ≤ j ∧ j < W'.heap.size)
section
variable {O : Nat → Prop} {W W' : World} {b a c : Nat} {va vc v' : Value} {k l k' l' : List Bool}
theorem ne_type {W : World} {k j : Nat} {c d : Array Value} {t u : TypeId} (h1 : W.heap[k]? = some (.cells c t (0, 0))) (h2 : W.heap[j]? = some (.cells d u (0, 0))) (ht : t ≠ u) : k ≠ j := fun e => by
  rw [e, h2] at h1
  simp at h1
  exact ht h1.2.symm
theorem own_lt {W : World} {b : Nat} {v : Value} {l : List Bool} (h : RsM W b v l) : ∀ j, v.ownBlock = some j → j < W.heap.size := fun j hj => (h.own.own j hj).2.1
/-- A Set stays, where another one turned. -/
theorem RsM.beside (h : RsM W c vc l) (hb : But1 a W W') (hac : a ≠ c) {cu : Array Value} (ha : W.heap[a]? = some (.cells cu 97 (0, 0))) : RsM W' c vc l :=
  ⟨(hb.block c (lt_of_block h.row) (Ne.symm hac)).trans h.row, h.own.block fun j hj => by
    obtain ⟨_, h4, c4, h5⟩ := h.own.own j hj
    exact hb.block j h4 (ne_type h5 ha (by decide)), h.le⟩
theorem more_sub (O : Nat → Prop) (W W' : World) : ∀ j, more O W W' j → O j ∨ W.heap.size ≤ j := fun _ h => h.imp id And.left
theorem newv_more {hv : ∀ j, va.ownBlock = some j → O j} (hn : NewV W va v') (hlt : ∀ j, v'.ownBlock = some j → j < W'.heap.size) : ∀ j, v'.ownBlock = some j → more O W W' j := fun j hj => (hn j hj).elim (fun h => .inl (hv j h)) (fun h => .inr ⟨h, hlt j hj⟩)
/-- Slot 0's Set turned. -/
theorem Fm.turnA (h : Fm O W b a c va vc k l) (hr : RsM W' a v' k') (hn : NewV W va v') (hb : But1 a W W') : Fm (more O W W') W' b a c v' vc k' l where
  row := (hb.block b (h.lt b h.ob) (ne_type h.row h.ra.row (by decide))).trans h.row
  ra := hr
  rc := h.rc.beside hb h.ne h.ra.row
  ne := h.ne
  ob := .inl h.ob
  oa := .inl h.oa
  oc := .inl h.oc
  ova := newv_more (hv := h.ova) hn (own_lt hr)
  ovc := fun j hj => .inl (h.ovc j hj)
  lt := fun j hj => hj.elim (fun h2 => Nat.lt_of_lt_of_le (h.lt j h2) hb.size) And.right
theorem Fm.turnB (h : Fm O W b a c va vc k l) (hr : RsM W' c v' l') (hn : NewV W vc v') (hb : But1 c W W') : Fm (more O W W') W' b a c va v' k l' where
  row := (hb.block b (h.lt b h.ob) (ne_type h.row h.rc.row (by decide))).trans h.row
  ra := h.ra.beside hb (Ne.symm h.ne) h.rc.row
  rc := hr
  ne := h.ne
  ob := .inl h.ob
  oa := .inl h.oa
  oc := .inl h.oc
  ova := fun j hj => .inl (h.ova j hj)
  ovc := newv_more (hv := h.ovc) hn (own_lt hr)
  lt := fun j hj => hj.elim (fun h2 => Nat.lt_of_lt_of_le (h.lt j h2) hb.size) And.right
theorem Fm.keep (h : Fm O W b a c va vc k l) (hk : ∀ j, O j → W'.heap[j]? = W.heap[j]?) : Fm O W' b a c va vc k l where
  row := (hk b h.ob).trans h.row
  ra := ⟨(hk a h.oa).trans h.ra.row, h.ra.own.block fun j hj => hk j (h.ova j hj), h.ra.le⟩
  rc := ⟨(hk c h.oc).trans h.rc.row, h.rc.own.block fun j hj => hk j (h.ovc j hj), h.rc.le⟩
  ne := h.ne
  ob := h.ob
  oa := h.oa
  oc := h.oc
  ova := h.ova
  ovc := h.ovc
  lt := fun j hj => by
    rcases Nat.lt_or_ge j W'.heap.size with h2 | h2
    · exact h2
    · have h3 := hk j hj
      rw [Array.getElem?_eq_none h2, Array.getElem?_eq_getElem (h.lt j hj)] at h3
      cases h3
theorem Fm.below (h : Fm O W b a c va vc k l) (hb : Below W.heap.size W W') : Fm O W' b a c va vc k l := h.keep fun j hj => hb.block j (h.lt j hj)
theorem Fm.c0 (h : Fm O W b a c va vc k l) : W.cell? ⟨b, 0, none⟩ = some (.pointer (some ⟨a, 0, none⟩)) := by rw [cell_of_row W b 0 _ _ _ h.row]; rfl
theorem Fm.c1 (h : Fm O W b a c va vc k l) : W.cell? ⟨b, 1, none⟩ = some (.pointer (some ⟨c, 0, none⟩)) := by rw [cell_of_row W b 1 _ _ _ h.row]; rfl
end
end Go.Proofs.YtchaeidmjoelnaaGreat
namespace Go.Proofs.YtchaeidmjoelnaaGreat
open Go.RowKit

def NewF (F : (Nat → Prop) → World → Nat → List Bool → List Bool → Prop) (w w' : World) (b : Nat) : Prop := ∃ O : Nat → Prop, F O w' b [] [] ∧ (∀ j, O j → w.heap.size ≤ j) ∧ Below w.heap.size w w'
set_option maxRecDepth 100000 in
set_option maxHeartbeats 4000000 in
theorem mnew_any (w : World) : Calls Tryz.prog 27 #[] w fun e w' => ∃ b, e = .returned (.pointer (some ⟨b, 0, none⟩)) ∧ NewF FlM w w' b := by
  go_enter Tryz.func27, Tryz.ntmps27
  go_wp2
  go_ret
  obtain ⟨s, hs⟩ : ∃ s, s = w.heap.size := ⟨_, rfl⟩
  have s1 : (w.alloc (.cells #[.slice none 0 0] 97)).heap.size = s + 1 := by rw [hs]; simp
  have s2 : ((w.alloc (.cells #[.slice none 0 0] 97)).alloc (.cells #[.slice none 0 0] 97)).heap.size = s + 2 := by rw [hs]; simp
  have b2 := below_alloc (w.alloc (.cells #[.slice none 0 0] 97)) (.cells #[.slice none 0 0] 97)
  have b3 := below_alloc ((w.alloc (.cells #[.slice none 0 0] 97)).alloc (.cells #[.slice none 0 0] 97)) (.cells #[.pointer (some ⟨w.heap.size, 0, none⟩), .pointer (some ⟨w.heap.size + 1, 0, none⟩)] 94)
  have n1 := heap_alloc_new w (.cells #[.slice none 0 0] 97)
  have n2 := heap_alloc_new (w.alloc (.cells #[.slice none 0 0] 97)) (.cells #[.slice none 0 0] 97)
  have n3 := heap_alloc_new ((w.alloc (.cells #[.slice none 0 0] 97)).alloc (.cells #[.slice none 0 0] 97)) (.cells #[.pointer (some ⟨w.heap.size, 0, none⟩), .pointer (some ⟨w.heap.size + 1, 0, none⟩)] 94)
  rw [← hs] at n1 n3 b3
  rw [s1] at n2
  rw [s2] at n3
  refine ⟨s + 2, by rw [hs]; simp, fun j => s ≤ j ∧ j < s + 3, ⟨s, s + 1, .slice none 0 0, .slice none 0 0, ?_⟩, fun j h => by rw [← hs]; exact h.1, ?_⟩
  · rw [← hs]
    exact {
      row := n3
      ra := ⟨(b3.block s (by rw [s2]; omega)).trans ((b2.block s (by rw [s1]; omega)).trans n1), ⟨rfl, .inl ⟨rfl, rfl⟩⟩, by simp⟩
      rc := ⟨(b3.block (s + 1) (by rw [s2]; omega)).trans n2, ⟨rfl, .inl ⟨rfl, rfl⟩⟩, by simp⟩
      ne := by omega
      ob := by omega
      oa := by omega
      oc := by omega
      ova := fun j hj => by cases hj
      ovc := fun j hj => by cases hj
      lt := fun j hj => by rw [World.size_alloc, s2]; omega }
  · exact (((Below.refl w.heap.size w).alloc (Nat.le_refl _) _).alloc (by rw [s1]; omega) _).alloc (by rw [s2]; omega) _
/-- Which Set a slot's pointer names; of other slots a new, empty one. -/
def SlotP (O : Nat → Prop) (W : World) (a c x : Nat) (s : Int) : Prop := (s = 0 ∧ x = a) ∨ (s = 1 ∧ x = c) ∨ (s ≠ 0 ∧ s ≠ 1 ∧ O x ∧ RsM W x (.slice none 0 0) [] ∧ x ≠ a ∧ x ≠ c)
theorem SlotP.keep {O : Nat → Prop} {W W' : World} {a c x : Nat} {s : Int} (h : SlotP O W a c x s) (hk : ∀ j, O j → W'.heap[j]? = W.heap[j]?) : SlotP O W' a c x s := by
  rcases h with h | h | ⟨h1, h2, h3, h4, h5⟩
  · exact .inl h
  · exact .inr (.inl h)
  · exact .inr (.inr ⟨h1, h2, h3, ⟨(hk x h3).trans h4.row, ⟨rfl, .inl ⟨rfl, rfl⟩⟩, h4.le⟩, h5⟩)
section
variable {O : Nat → Prop} {W W' : World} {b a c x : Nat} {va vc v' : Value} {k l k' l' : List Bool} {s : Int}
theorem Fm.wider (h : Fm O W b a c va vc k l) (O' : Nat → Prop) (ho : ∀ j, O j → O' j) (hlt : ∀ j, O' j → j < W.heap.size) : Fm O' W b a c va vc k l := ⟨h.row, h.ra, h.rc, h.ne, ho _ h.ob, ho _ h.oa, ho _ h.oc, fun j hj => ho j (h.ova j hj), fun j hj => ho j (h.ovc j hj), hlt⟩
set_option maxRecDepth 100000 in
set_option maxHeartbeats 4000000 in
theorem mslot_any (s : Int) (h : Fm O W b a c va vc k l) : Calls Tryz.prog 12 #[.pointer (some ⟨b, 0, none⟩), .int .i64 s] W fun e w' => ∃ x O', e = .returned (.pointer (some ⟨x, 0, none⟩)) ∧ Fm O' w' b a c va vc k l ∧ SlotP O' w' a c x s ∧ (∀ j, O' j → O j ∨ W.heap.size ≤ j) ∧ Below W.heap.size W w' := by
  have HF := Lib.hid h
  have k0 := h.c0
  have k1 := h.c1
  clear h
  by_cases h0 : s = 0
  case pos =>
    subst h0
    go_enter Tryz.func12, Tryz.ntmps12
    go_wp2
    go_ret
    exact ⟨a, O, rfl, HF.out, .inl ⟨rfl, rfl⟩, fun j h => .inl h, Below.refl _ _⟩
  by_cases h1 : s = 1
  case pos =>
    subst h1
    go_enter Tryz.func12, Tryz.ntmps12
    go_wp2
    go_ret
    exact ⟨c, O, rfl, HF.out, .inr (.inl ⟨rfl, rfl⟩), fun j h => .inl h, Below.refl _ _⟩
  have e0 : (s == 0) = false := beq_eq_false_iff_ne.2 h0
  have e1 : (s == 1) = false := beq_eq_false_iff_ne.2 h1
  have HS := Lib.hid (And.intro h0 h1)
  clear h0 h1
  go_enter Tryz.func12, Tryz.ntmps12
  go_wp2
  go_ret
  have hb := below_alloc W (.cells #[.slice none 0 0] 97)
  have hf := HF.out.below hb
  refine ⟨W.heap.size, more O W (W.alloc (.cells #[.slice none 0 0] 97)), rfl, hf.wider _ (fun j h => .inl h) (fun j h => h.elim (fun h => Nat.lt_of_lt_of_le (HF.out.lt j h) hb.size) And.right), .inr (.inr ⟨HS.out.1, HS.out.2, .inr ⟨Nat.le_refl _, by simp⟩, ⟨heap_alloc_new W _, ⟨rfl, .inl ⟨rfl, rfl⟩⟩, by simp⟩, ?_, ?_⟩), more_sub _ _ _, hb⟩
  · have := HF.out.lt a HF.out.oa; omega
  · have := HF.out.lt c HF.out.oc; omega
theorem mready_at (i : Int) (on : Bool) (h : Fm O W b a c va vc k l) (hs : SlotP O W a c x s) : Calls Tryz.prog 13 #[.pointer (some ⟨x, 0, none⟩), .int .i64 i, .bool on] W fun e w' => e = .returned (.bool (decide (isW (slotK s k l) i))) ∧ Turn FlM O W w' b (rdA k s i on) (rdB l s i on) := by
  rcases hs with ⟨rfl, rfl⟩ | ⟨rfl, rfl⟩ | ⟨h1, h2, h3, h4, h5, h6⟩
  · refine (mready_any x va k i on W h.ra).mono fun _ w' ⟨he, v', hr, hn, hb⟩ => ⟨he, more O W w', ⟨_, _, _, _, h.turnA hr hn hb⟩, more_sub _ _ _, ButO.of_one hb h.oa⟩
  · refine (mready_any x vc l i on W h.rc).mono fun _ w' ⟨he, v', hr, hn, hb⟩ => ⟨he, more O W w', ⟨_, _, _, _, h.turnB hr hn hb⟩, more_sub _ _ _, ButO.of_one hb h.oc⟩
  · refine (mready_any x _ [] i on W h4).mono fun _ w' ⟨he, v', hr, hn, hb⟩ => ⟨?_, O, ?_, fun j h => .inl h, ButO.of_one hb h3⟩
    · rw [he]
      unfold slotK
      rw [if_neg h1, if_neg h2]
    · unfold rdA rdB
      rw [if_neg h1, if_neg h2]
      exact ⟨a, c, va, vc, {
        row := (hb.block b (h.lt b h.ob) (ne_type h.row h4.row (by decide))).trans h.row
        ra := h.ra.beside hb h5 h4.row
        rc := h.rc.beside hb h6 h4.row
        ne := h.ne
        ob := h.ob
        oa := h.oa
        oc := h.oc
        ova := h.ova
        ovc := h.ovc
        lt := fun j hj => Nat.lt_of_lt_of_le (h.lt j hj) hb.size }⟩
/-- Scale of either Set. -/
theorem fm_scaleA (n : Int) (h : Fm O W b a c va vc k l) : Calls Tryz.prog 53 #[.pointer (some ⟨a, 0, none⟩), .int .i64 n] W fun e w' => e = .returned (.tuple #[]) ∧ ∃ v', Fm (more O W w') w' b a c v' vc (scaleL k n) l ∧ ButO O W w' :=
  (mscale_any a va k n W h.ra).mono fun _ _ ⟨he, v', hr, hn, hb⟩ => ⟨he, v', h.turnA hr hn hb, ButO.of_one hb h.oa⟩
theorem fm_scaleB (n : Int) (h : Fm O W b a c va vc k l) : Calls Tryz.prog 53 #[.pointer (some ⟨c, 0, none⟩), .int .i64 n] W fun e w' => e = .returned (.tuple #[]) ∧ ∃ v', Fm (more O W w') w' b a c va v' k (scaleL l n) ∧ ButO O W w' :=
  (mscale_any c vc l n W h.rc).mono fun _ _ ⟨he, v', hr, hn, hb⟩ => ⟨he, v', h.turnB hr hn hb, ButO.of_one hb h.oc⟩
theorem fm_readyA (i : Int) (on : Bool) (h : Fm O W b a c va vc k l) : Calls Tryz.prog 13 #[.pointer (some ⟨a, 0, none⟩), .int .i64 i, .bool on] W fun e w' => e = .returned (.bool (decide (isW k i))) ∧ ∃ v', Fm (more O W w') w' b a c v' vc (readyL k i on) l ∧ ButO O W w' :=
  (mready_any a va k i on W h.ra).mono fun _ _ ⟨he, v', hr, hn, hb⟩ => ⟨he, v', h.turnA hr hn hb, ButO.of_one hb h.oa⟩
theorem fm_readyB (i : Int) (on : Bool) (h : Fm O W b a c va vc k l) : Calls Tryz.prog 13 #[.pointer (some ⟨c, 0, none⟩), .int .i64 i, .bool on] W fun e w' => e = .returned (.bool (decide (isW l i))) ∧ ∃ v', Fm (more O W w') w' b a c va v' k (readyL l i on) ∧ ButO O W w' :=
  (mready_any c vc l i on W h.rc).mono fun _ _ ⟨he, v', hr, hn, hb⟩ => ⟨he, v', h.turnB hr hn hb, ButO.of_one hb h.oc⟩
theorem below_drew1 (W : World) : Below W.heap.size W W.drew := ⟨rfl, rfl, rfl, Nat.le_refl _, fun _ _ => rfl⟩
end
end Go.Proofs.YtchaeidmjoelnaaGreat
namespace Go.Proofs.YtchaeidmjoelnaaGreat
open Go.RowKit

section
variable {O : Nat → Prop} {W W' : World} {b a c x : Nat} {va vc v' : Value} {k l k' l' : List Bool} {s : Int}
/-- Two numbers in a block of the call's own. -/
def Box2 (W : World) (A : Nat) (p q : Int) : Prop := W.heap[A]? = some (.cells #[.int .i64 p, .int .i64 q] 30 (0, 0))
theorem Box2.c0 {A : Nat} {p q : Int} (h : Box2 W A p q) : W.cell? ⟨A, 0, none⟩ = some (.int .i64 p) := by rw [cell_of_row W A 0 _ _ _ h]; rfl
theorem Box2.c1 {A : Nat} {p q : Int} (h : Box2 W A p q) : W.cell? ⟨A, 1, none⟩ = some (.int .i64 q) := by rw [cell_of_row W A 1 _ _ _ h]; rfl
set_option maxRecDepth 100000 in
set_option maxHeartbeats 4000000 in
theorem mapply_any (p q : Int) (h : Fm O W b a c va vc k l) : Calls Tryz.prog 28 #[.pointer (some ⟨b, 0, none⟩), .agg #[.int .i64 p, .int .i64 q]] W fun e w' => e = .returned (.tuple #[]) ∧ Turn FlM O W w' b (scaleL k p) (scaleL l q) := by
  have HF := Lib.hid h
  clear h
  go_enter Tryz.func28, Tryz.ntmps28
  go_upto_region 1 with (fail)
  obtain ⟨A, hA⟩ : ∃ A, A = W.heap.size := ⟨_, rfl⟩
  rw [← hA]
  refine name_w (fun X => Fm O X b a c va vc k l ∧ Box2 X A p q ∧ Below W.heap.size W X) ?_ ?_
  · have hb := below_alloc W (.cells #[.int .i64 p, .int .i64 q] 30)
    exact ⟨HF.out.below hb, by unfold Box2; rw [hA]; exact heap_alloc_new W _, hb⟩
  rintro X ⟨h1, h2, h3⟩
  have y1 : X.drew.cell? ⟨b, 0, none⟩ = some (.pointer (some ⟨a, 0, none⟩)) ∧ X.drew.cell? ⟨A, 0, none⟩ = some (.int .i64 p) := ⟨(h1.below (below_drew1 X)).c0, h2.c0⟩
  have hAO : ¬ O A := fun h => by have := HF.out.lt A h; omega
  have HC : Hid (Calls Tryz.prog 53 #[.pointer (some ⟨a, 0, none⟩), .int .i64 p] X.drew fun e w' => e = .returned (.tuple #[]) ∧ ∃ v' O', Fm O' w' b a c v' vc (scaleL k p) l ∧ Box2 w' A p q ∧ (∀ j, O' j → O j ∨ W.heap.size ≤ j) ∧ ButO O W w' ∧ ¬ O' A) := Lib.hid (by
    refine (fm_scaleA p (h1.below (below_drew1 X))).mono fun _ w' ⟨he, v', hf, hb⟩ => ⟨he, v', _, hf, (hb.block A (lt_of_block h2) hAO).trans h2, fun j hj => (more_sub _ _ _ j hj).imp id (fun h => Nat.le_trans h3.size h), (ButO.of_below (h3.trans ((below_drew1 X).mono h3.size))).trans hb (fun j hj => .inl hj), ?_⟩
    have := lt_of_block h2
    exact fun hj => hj.elim hAO (fun h => by have : X.heap.size ≤ A := h.1; omega))
  clear h1 h2 h3 hAO hA
  go_region_held3 (fun wx => wx.cell? ⟨b, 0, none⟩ = some (.pointer (some ⟨a, 0, none⟩)) ∧ wx.cell? ⟨A, 0, none⟩ = some (.int .i64 p)) (first | exact y2 | exact y1) (first | (go_at_call 53; refine HC.out.mono ?_; rintro e w2 ⟨rfl, v2, O2, f1, f2, f3, f4, f5⟩; have y2 := And.intro f1.c0 f2.c0))
  clear y1 y2 HC
  rename_i hh1
  clear hh1
  have y1 : w2.drew.cell? ⟨b, 1, none⟩ = some (.pointer (some ⟨c, 0, none⟩)) ∧ w2.drew.cell? ⟨A, 1, none⟩ = some (.int .i64 q) := ⟨(f1.below (below_drew1 w2)).c1, f2.c1⟩
  have HC : Hid (Calls Tryz.prog 53 #[.pointer (some ⟨c, 0, none⟩), .int .i64 q] w2.drew fun e w' => e = .returned (.tuple #[]) ∧ ∃ v' O', Fm O' w' b a c v2 v' (scaleL k p) (scaleL l q) ∧ (∀ j, O' j → O j ∨ W.heap.size ≤ j) ∧ ButO O W w' ∧ Box2 w' A p q) := Lib.hid (by
    refine (fm_scaleB q (f1.below (below_drew1 w2))).mono fun _ w' ⟨he, v', hf, hb⟩ => ⟨he, v', _, hf, fun j hj => (more_sub _ _ _ j hj).elim (f3 j) (fun h => .inr (Nat.le_trans f4.size h)), (f4.trans (ButO.of_below (O := O) (below_drew1 w2)) (fun j hj => .inl hj)).trans hb f3, (hb.block A (lt_of_block f2) f5).trans f2⟩)
  clear f1 f2 f3 f4 f5
  go_wp2
  go_region_held3 (fun wx => wx.cell? ⟨b, 1, none⟩ = some (.pointer (some ⟨c, 0, none⟩)) ∧ wx.cell? ⟨A, 1, none⟩ = some (.int .i64 q)) (first | exact y3 | exact y1) (first | (go_at_call 53; refine HC.out.mono ?_; rintro e w3 ⟨rfl, v3, O3, g1, g2, g3, g4⟩; have y3 := And.intro g1.c1 g4.c1))
  have HZ := Lib.hid (And.intro g1 (And.intro g2 g3))
  clear y1 y3 HC g1 g2 g3 g4
  go_wp2
  go_end0
  exact ⟨rfl, O3, ⟨a, c, v2, v3, HZ.out.1⟩, HZ.out.2.1, HZ.out.2.2⟩
set_option maxRecDepth 100000 in
set_option maxHeartbeats 4000000 in
theorem mfill_any (h : Fm O W b a c va vc k l) : Calls Tryz.prog 29 #[.pointer (some ⟨b, 0, none⟩)] W fun e w' => e = .returned (.tuple #[]) ∧ Turn FlM O W w' b (fillL k) (fillL l) := by
  have HF := Lib.hid h
  clear h
  go_enter Tryz.func29, Tryz.ntmps29
  go_wp2
  go_loopg [2] 32 (fun gg iv wr => ∃ (i : Nat) (Oi : Nat → Prop) (ui wi : Value), Hid (gg = 32 - i) ∧ i ≤ 32 ∧ iv = .int .i64 (i : Int) ∧ Hid (Fm Oi wr b a c ui wi (fillTo k i) (fillTo l i) ∧ (∀ j, Oi j → O j ∨ W.heap.size ≤ j) ∧ ButO O W wr))
  case atStart => exact ⟨0, O, va, vc, Lib.hid rfl, Nat.zero_le _, rfl, Lib.hid ⟨HF.out, fun j h => .inl h, ButO.refl _ _⟩⟩
  case round =>
    obtain ⟨i, Oi, ui, wi, HG, hi, rfl, HI⟩ := hrel
    by_cases hl : i < 32
    case neg =>
      have e4 : decide ((i : Int) < 32) = false := decide_eq_false (by omega)
      have e5 : decide (i < 32) = false := decide_eq_false hl
      obtain rfl : i = 32 := by omega
      have HT : Hid (Turn FlM O W wr b (fillL k) (fillL l)) := Lib.hid (by
        have h := HI.out.1
        rw [fillTo_all k 32 HF.out.ra.le, fillTo_all l 32 HF.out.rc.le] at h
        exact ⟨Oi, ⟨_, _, _, _, h⟩, HI.out.2⟩)
      clear hl HI
      go_wp2
      go_end0
      exact ⟨rfl, HT.out⟩
    have e4 : decide ((i : Int) < 32) = true := decide_eq_true (by omega)
    have e5 : decide (i < 32) = true := decide_eq_true hl
    have HLT := Lib.hid hl
    have k0 := HI.out.1.c0
    clear hl
    go_wp2_with fail
    refine (fm_readyA (i : Int) true HI.out.1).mono ?_
    rintro e w2 ⟨rfl, v2, f1, f2⟩
    have k1 := f1.c1
    have H2 := Lib.hid (And.intro f1 f2)
    clear f1 f2 k0
    go_wp2_with fail
    refine (fm_readyB (i : Int) true H2.out.1).mono ?_
    rintro e w3 ⟨rfl, v3, f1, f2⟩
    have H3 := Lib.hid (And.intro f1 f2)
    clear f1 f2 k1
    go_wp2
    go_roundg (32 - (i + 1))
    case measure => have := HG.out; have := HLT.out; omega
    case rel =>
      have e2 := HI.out.2.2.trans H2.out.2 HI.out.2.1
      have s2 : ∀ j, more Oi wr w2 j → O j ∨ W.heap.size ≤ j := fun j hj => (more_sub _ _ _ j hj).elim (HI.out.2.1 j) (fun h => .inr (Nat.le_trans HI.out.2.2.size h))
      exact ⟨i + 1, _, v2, v3, Lib.hid rfl, HLT.out, by go_num, Lib.hid ⟨H3.out.1, fun j hj => (more_sub _ _ _ j hj).elim (s2 j) (fun h => .inr (Nat.le_trans e2.size h)), e2.trans H3.out.2 s2⟩⟩
end
end Go.Proofs.YtchaeidmjoelnaaGreat
namespace Go.Proofs.YtchaeidmjoelnaaGreat
open Go.RowKit

theorem u37 : Tryz.prog.underlying 57 = some (.struct (Tryz.prog.fieldsOf 57)) := by kernel_rfl
theorem i37 : (Tryz.prog.info? 57).map (·.size) = some 4 := by kernel_rfl
/-- A view: four numbers. -/
def viewV (a b c d : Nat) : Value := .agg #[.int .i64 (a : Int), .int .i64 (b : Int), .int .i64 (c : Int), .int .i64 (d : Int)]
def viewK (k l : List Bool) : Value := viewV k.length l.length (cntL k) (cntL l)
def Row4 (W : World) (A : Nat) (a b c d : Int) : Prop := W.heap[A]? = some (.cells #[.int .i64 a, .int .i64 b, .int .i64 c, .int .i64 d] 57 (0, 0))
section
variable {O : Nat → Prop} {W W' : World} {b a c x : Nat} {va vc v' : Value} {k l k' l' : List Bool} {s : Int}
theorem Row4.c0 {A : Nat} {p q r s : Int} (h : Row4 W A p q r s) : W.cell? ⟨A, 0, none⟩ = some (.int .i64 p) := by rw [cell_of_row W A 0 _ _ _ h]; rfl
theorem Row4.c1 {A : Nat} {p q r s : Int} (h : Row4 W A p q r s) : W.cell? ⟨A, 1, none⟩ = some (.int .i64 q) := by rw [cell_of_row W A 1 _ _ _ h]; rfl
theorem Row4.c2 {A : Nat} {p q r s : Int} (h : Row4 W A p q r s) : W.cell? ⟨A, 2, none⟩ = some (.int .i64 r) := by rw [cell_of_row W A 2 _ _ _ h]; rfl
theorem Row4.c3 {A : Nat} {p q r s : Int} (h : Row4 W A p q r s) : W.cell? ⟨A, 3, none⟩ = some (.int .i64 s) := by rw [cell_of_row W A 3 _ _ _ h]; rfl
theorem Row4.fr {A : Nat} {p q r s : Int} (h : Row4 W A p q r s) (i : Nat) : W.frozen? ⟨A, i, none⟩ = false := by simp [World.frozen?, show W.heap[A]? = _ from h]
theorem Row4.set01 {A : Nat} {p q r s : Int} (h : Row4 W A p q r s) (x y : Int) : Row4 ((W.setCell ⟨A, 0, none⟩ (.int .i64 x)).setCell ⟨A, 1, none⟩ (.int .i64 y)) A x y r s := heap_setCell_same _ A 1 _ 57 _ (heap_setCell_same W A 0 _ 57 _ h)
theorem Row4.set23 {A : Nat} {p q r s : Int} (h : Row4 W A p q r s) (x y : Int) : Row4 ((W.setCell ⟨A, 2, none⟩ (.int .i64 x)).setCell ⟨A, 3, none⟩ (.int .i64 y)) A p q x y := heap_setCell_same _ A 3 _ 57 _ (heap_setCell_same W A 2 _ 57 _ h)
/-- A new block is written: all older ones stay. -/
theorem below_setNew {B : Nat} {w W : World} (h : Below B w W) (A i : Nat) (u : Value) (hA : B ≤ A) : Below B w (W.setCell ⟨A, i, none⟩ u) :=
  ⟨h.os, h.tape, h.output, by simpa [World.setCell] using h.size, fun k hk => (Below.heap_setCell W ⟨A, i, none⟩ u k (by show k ≠ A; omega)).trans (h.block k hk)⟩
theorem mcount_k {n : Nat} (h : RsM W x v' k ∧ n = cntL k) : Calls Tryz.prog 57 #[.pointer (some ⟨x, 0, none⟩)] W fun e w' => e = .returned (.int .i64 (n : Int)) ∧ W = w' := by
  rw [h.2]
  exact mcount_any x v' k W h.1
set_option maxRecDepth 100000 in
set_option maxHeartbeats 4000000 in
theorem mview_any (h : Fm O W b a c va vc k l) : Calls Tryz.prog 35 #[.pointer (some ⟨b, 0, none⟩)] W fun e w' => e = .returned (viewK k l) ∧ Below W.heap.size W w' := by
  have HF := Lib.hid h
  obtain ⟨Aa, ca, rfl⟩ := h.ra.own.shape
  obtain ⟨Ac, cc, rfl⟩ := h.rc.own.shape
  clear h
  go_enter Tryz.func35, Tryz.ntmps35
  go_upto_region 2 with (fail)
  obtain ⟨A, hA⟩ : ∃ A, A = W.heap.size := ⟨_, rfl⟩
  obtain ⟨B, hB⟩ : ∃ B, B = W.heap.size + 1 := ⟨_, rfl⟩
  rw [← hB, ← hA]
  refine name_w (fun X => Fm O X b a c (.slice Aa k.length ca) (.slice Ac l.length cc) k l ∧ Row4 X A 0 0 0 0 ∧ Row4 X B 0 0 0 0 ∧ Below W.heap.size W X) ?_ ?_
  · have b1 := below_alloc W (.cells #[.int .i64 0, .int .i64 0, .int .i64 0, .int .i64 0] 57)
    have b2 := b1.alloc b1.size (.cells #[.int .i64 0, .int .i64 0, .int .i64 0, .int .i64 0] 57)
    have n1 := heap_alloc2_old W (.cells #[.int .i64 0, .int .i64 0, .int .i64 0, .int .i64 0] 57) (.cells #[.int .i64 0, .int .i64 0, .int .i64 0, .int .i64 0] 57)
    have n2 := heap_alloc2_new W (.cells #[.int .i64 0, .int .i64 0, .int .i64 0, .int .i64 0] 57) (.cells #[.int .i64 0, .int .i64 0, .int .i64 0, .int .i64 0] 57)
    exact ⟨HF.out.below b2, by rw [hA]; exact n1, by rw [hB]; exact n2, b2⟩
  rintro X ⟨h1, h2, h3, h4⟩
  have HAB := Lib.hid (And.intro hA hB)
  clear hA hB
  have f1 := h1.below (below_drew1 X)
  have y1 : X.drew.cell? ⟨b, 0, none⟩ = some (.pointer (some ⟨a, 0, none⟩)) ∧ X.drew.cell? ⟨b, 1, none⟩ = some (.pointer (some ⟨c, 0, none⟩)) ∧ X.drew.cell? ⟨a, 0, none⟩ = some (.slice Aa k.length ca) ∧ X.drew.cell? ⟨c, 0, none⟩ = some (.slice Ac l.length cc) := ⟨f1.c0, f1.c1, f1.ra.c0, f1.rc.c0⟩
  have g3 : Row4 X B 0 0 0 0 := h3
  have z0 := g3.c0
  have z1 := g3.c1
  have q0 := g3.fr 0
  have q1 := g3.fr 1
  have HY : Hid (Fm O ((X.setCell ⟨B, 0, none⟩ (.int .i64 k.length)).setCell ⟨B, 1, none⟩ (.int .i64 l.length)).drew b a c (.slice Aa k.length ca) (.slice Ac l.length cc) k l ∧ Row4 ((X.setCell ⟨B, 0, none⟩ (.int .i64 k.length)).setCell ⟨B, 1, none⟩ (.int .i64 l.length)).drew A 0 0 0 0 ∧ Row4 ((X.setCell ⟨B, 0, none⟩ (.int .i64 k.length)).setCell ⟨B, 1, none⟩ (.int .i64 l.length)).drew B k.length l.length 0 0 ∧ Below W.heap.size W ((X.setCell ⟨B, 0, none⟩ (.int .i64 k.length)).setCell ⟨B, 1, none⟩ (.int .i64 l.length)).drew) := Lib.hid (by
    have hbl0 := below_setNew (below_setNew h4 B 0 (.int .i64 k.length) (by rw [HAB.out.2]; omega)) B 1 (.int .i64 l.length) (by rw [HAB.out.2]; omega)
    have hbl := hbl0.trans ((below_drew1 _).mono hbl0.size)
    have hne : A ≠ B := by rw [HAB.out.1, HAB.out.2]; omega
    exact ⟨HF.out.below hbl, ((Below.heap_setCell _ ⟨B, 1, none⟩ _ A hne).trans (Below.heap_setCell _ ⟨B, 0, none⟩ _ A hne)).trans h2, g3.set01 _ _, hbl⟩)
  have y2 : _ ∧ _ ∧ _ ∧ _ := ⟨HY.out.1.c0, HY.out.1.c1, HY.out.1.ra.c0, HY.out.1.rc.c0⟩
  clear h1 h2 h3 h4 f1 g3
  go_region_held3 (fun wx => wx.cell? ⟨b, 0, none⟩ = some (.pointer (some ⟨a, 0, none⟩)) ∧ wx.cell? ⟨b, 1, none⟩ = some (.pointer (some ⟨c, 0, none⟩)) ∧ wx.cell? ⟨a, 0, none⟩ = some (.slice Aa k.length ca) ∧ wx.cell? ⟨c, 0, none⟩ = some (.slice Ac l.length cc)) (first | exact y2 | exact y1) (fail)
  rename_i hh
  clear hh y1 y2 z0 z1 q0 q1
  go_wp2
  refine name_w (fun Y => Fm O Y b a c (.slice Aa k.length ca) (.slice Ac l.length cc) k l ∧ Row4 Y A 0 0 0 0 ∧ Row4 Y B k.length l.length 0 0 ∧ Below W.heap.size W Y) HY.out ?_
  clear HY
  rintro Y ⟨h1, h2, h3, h4⟩
  obtain ⟨ck, hck⟩ : ∃ x, x = cntL k := ⟨_, rfl⟩
  obtain ⟨cl, hcl⟩ : ∃ x, x = cntL l := ⟨_, rfl⟩
  have f1 := h1.below (below_drew1 Y)
  have y1 : Y.drew.cell? ⟨b, 0, none⟩ = some (.pointer (some ⟨a, 0, none⟩)) ∧ Y.drew.cell? ⟨b, 1, none⟩ = some (.pointer (some ⟨c, 0, none⟩)) := ⟨f1.c0, f1.c1⟩
  have ra := Lib.hid (And.intro f1.ra hck)
  have rc := Lib.hid (And.intro f1.rc hcl)
  have z2 := h3.c2
  have z3 := h3.c3
  have q2 := h3.fr 2
  have q3 := h3.fr 3
  have HY : Hid (Fm O ((Y.setCell ⟨B, 2, none⟩ (.int .i64 ck)).setCell ⟨B, 3, none⟩ (.int .i64 cl)).drew b a c (.slice Aa k.length ca) (.slice Ac l.length cc) k l ∧ Row4 ((Y.setCell ⟨B, 2, none⟩ (.int .i64 ck)).setCell ⟨B, 3, none⟩ (.int .i64 cl)).drew A 0 0 0 0 ∧ Row4 ((Y.setCell ⟨B, 2, none⟩ (.int .i64 ck)).setCell ⟨B, 3, none⟩ (.int .i64 cl)).drew B k.length l.length ck cl ∧ Below W.heap.size W ((Y.setCell ⟨B, 2, none⟩ (.int .i64 ck)).setCell ⟨B, 3, none⟩ (.int .i64 cl)).drew) := Lib.hid (by
    have hbl0 := below_setNew (below_setNew h4 B 2 (.int .i64 ck) (by rw [HAB.out.2]; omega)) B 3 (.int .i64 cl) (by rw [HAB.out.2]; omega)
    have hbl := hbl0.trans ((below_drew1 _).mono hbl0.size)
    have hne : A ≠ B := by rw [HAB.out.1, HAB.out.2]; omega
    exact ⟨HF.out.below hbl, ((Below.heap_setCell _ ⟨B, 3, none⟩ _ A hne).trans (Below.heap_setCell _ ⟨B, 2, none⟩ _ A hne)).trans h2, h3.set23 _ _, hbl⟩)
  have y2 : _ ∧ _ := ⟨HY.out.1.c0, HY.out.1.c1⟩
  have HV := Lib.hid (And.intro hck hcl)
  clear h1 h2 h3 h4 f1 hck hcl
  go_region_held3 (fun wx => wx.cell? ⟨b, 0, none⟩ = some (.pointer (some ⟨a, 0, none⟩)) ∧ wx.cell? ⟨b, 1, none⟩ = some (.pointer (some ⟨c, 0, none⟩))) (first | exact y2 | exact y1) (first | (go_at_call 57; refine (mcount_k (by first | exact ra.out | exact rc.out)).mono ?_; rintro e w2 ⟨rfl, rfl⟩))
  rename_i hh
  clear hh y1 y2 z2 z3 q2 q3 ra rc
  go_upto_region 4 with (fail)
  refine name_w (fun Z => Row4 Z A 0 0 0 0 ∧ Row4 Z B k.length l.length ck cl ∧ Below W.heap.size W Z) ⟨HY.out.2.1, HY.out.2.2⟩ ?_
  clear HY
  rintro Z ⟨h1, h2, h3⟩
  have m0 := h2.c0
  have m1 := h2.c1
  have m2 := h2.c2
  have m3 := h2.c3
  have z0 := h1.c0
  have z1 := h1.c1
  have z2 := h1.c2
  have z3 := h1.c3
  have q0 := h1.fr 0
  have q1 := h1.fr 1
  have q2 := h1.fr 2
  have q3 := h1.fr 3
  have HZ := Lib.hid ((h1.set01 (k.length : Int) (l.length : Int)).set23 (ck : Int) (cl : Int))
  have HW : Hid (Below W.heap.size W ((((Z.setCell ⟨A, 0, none⟩ (.int .i64 k.length)).setCell ⟨A, 1, none⟩ (.int .i64 l.length)).setCell ⟨A, 2, none⟩ (.int .i64 ck)).setCell ⟨A, 3, none⟩ (.int .i64 cl))) := Lib.hid (by
    have ha : W.heap.size ≤ A := by rw [HAB.out.1]; exact Nat.le_refl _
    exact below_setNew (below_setNew (below_setNew (below_setNew h3 A 0 _ ha) A 1 _ ha) A 2 _ ha) A 3 _ ha)
  clear h1 h2 h3
  go_wp2
  refine bodyPost_ret (results_cell_row rfl _ _ A 57 #[.int .i64 k.length, .int .i64 l.length, .int .i64 ck, .int .i64 cl] (0, 0) _ rfl HZ.out u37 rfl i37) rfl ?_
  exact ⟨by rw [HV.out.1, HV.out.2]; rfl, HW.out⟩
end
end Go.Proofs.YtchaeidmjoelnaaGreat
namespace Go.Proofs.YtchaeidmjoelnaaGreat
open Go.RowKit

theorem some3 : (Tryz.prog.info? 3).isSome = true := by kernel_rfl
theorem u28 : Tryz.prog.underlying 30 = some (.array 2 3) := by kernel_rfl
theorem eq28 (d : Nat) (a b c e : Int) (w : World) : (Op.equalIn (d + 2) 30 (.agg #[.int .i64 a, .int .i64 b]) (.agg #[.int .i64 c, .int .i64 e])).run Tryz.prog w = .ok (a == c && b == e) w := by
  rw [show d + 2 = (d + 1) + 1 from rfl, run_equalIn_array w (d + 1) _ _ u28 (Option.some_get some3).symm]
  have i3 : ∀ a b, (Op.equalIn (d + 1) 3 (.int .i64 a) (.int .i64 b)).run Tryz.prog w = .ok (a == b) w := fun a b => run_equalIn_int w d 3 .i64 .i64 a b Tryz.underlying3
  have a3 : (isAgg 3).run Tryz.prog w = .ok false w := by
    unfold isAgg
    rw [Sem.run_bind, run_underlying Tryz.underlying3 w]
    rfl
  rw [show List.range 2 = [0, 1] from rfl]
  simp only [Op.eqItems, k3, part, Sem.run_bind, a3, Result.andThen_ok]
  by_cases h7 : a = c <;> by_cases h8 : b = e <;> simp [h7, h8, i3]
theorem sh37 : Tryz.prog.stoodInHeld 57 = false := by kernel_rfl
theorem some28 : (Tryz.prog.info? 30).isSome = true := by kernel_rfl
noncomputable def ie28 : TypeInfo := (Tryz.prog.info? 30).get some28
theorem ie28_is : Tryz.prog.info? 30 = some ie28 := (Option.some_get some28).symm
theorem ie28_size : ie28.size = 2 := by kernel_rfl
theorem size28 (w : World) : (sizeOf 30).run Tryz.prog w = .ok 2 w := by simp [sizeOf, typeInfo, ie28_is, ie28_size]
theorem eq37 (a b c e a' b' c' e' : Int) (w : World) : (Op.equalIn 10000 57 (.agg #[.int .i64 a, .int .i64 b, .int .i64 c, .int .i64 e]) (.agg #[.int .i64 a', .int .i64 b', .int .i64 c', .int .i64 e'])).run Tryz.prog w = .ok (a == a' && b == b' && (c == c' && e == e')) w := by
  rw [run_equalIn_agg w 9999 57 _ _ u37 sh37]
  have hf : (Tryz.prog.fieldsOf 57).toList.map (fun f => (f.type, f.offset, f.name)) = [(30, 0, "Want"), (30, 2, "Ready")] := by kernel_rfl
  generalize (Tryz.prog.fieldsOf 57).toList = fs at hf
  rcases fs with _ | ⟨f0, _ | ⟨f1, _ | ⟨f2, fs⟩⟩⟩ <;> simp at hf
  obtain ⟨⟨h1, h2, h3⟩, h4, h5, h6⟩ := hf
  have i28 : ∀ a b c e : Int, (Op.equalIn 9999 30 (.agg #[.int .i64 a, .int .i64 b]) (.agg #[.int .i64 c, .int .i64 e])).run Tryz.prog w = .ok (a == c && b == e) w := fun a b c e => eq28 9997 a b c e w
  have a28 : (isAgg 30).run Tryz.prog w = .ok true w := by
    unfold isAgg
    rw [Sem.run_bind, run_underlying u28 w]
    rfl
  simp [Op.eqFields, h1, h2, h3, h4, h5, h6, part, a28, i28]
  by_cases h7 : a = a' <;> by_cases h8 : b = b' <;> by_cases h9 : c = c' <;> by_cases h10 : e = e' <;> simp [h7, h8, h9, h10]
end Go.Proofs.YtchaeidmjoelnaaGreat
