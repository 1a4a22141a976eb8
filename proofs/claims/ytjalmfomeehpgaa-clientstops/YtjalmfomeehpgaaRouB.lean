/-
  The document's own router in memory: Call.
-/
import Derived.Test.YtjalmfomeehpgaaRouA
namespace Go.Proofs.Ytjalmfomeehpgaa
open Go.RowKit

theorem slice_one (W : World) (Ad : Option Addr) (n cp : Nat) (h : 1 ≤ n) : (Instr.slice 34 (.slice Ad n cp) (some (.int .i64 1)) none none).run Try.prog W = .ok (.slice (if cp = 1 then Ad else Ad.map (·.add (1 * 1))) (n - 1) (cp - 1)) W := by
  have h1 : (1 : Int) ≤ (n : Int) := by omega
  simp [Instr.slice, run_underlying Try.underlying34, Instr.sliceBounds, Instr.sliceBound, asIntOf, sizeOf, typeInfo, ie3_is, ie3_size, h1]
theorem own_tail {W : World} {v : Value} {x : Int} {xs : List Int} (h : Own W v (x :: xs)) : ∃ e c, v = .slice (some ⟨e, 0, none⟩) (xs.length + 1) c ∧ W.cell? ⟨e, 0, none⟩ = some (.int .i64 x) ∧ ∃ v1, (∀ W', (Instr.slice 34 v (some (.int .i64 1)) none none).run Try.prog W' = .ok v1 W') ∧ IntsI W v1 xs := by
  have hr := h.reads
  rcases h.2 with ⟨_, hn⟩ | ⟨g, cap, cur, rfl, _, hg, hn, hc, hs, ht⟩
  · cases hn
  · rcases hr with ⟨_, h0⟩ | ⟨b, o, c, he, _, h2, h3, h4⟩
    · cases h0
    · injection he with he1 he2 he3
      injection he1 with he1
      injection he1 with e1 e2 e3
      subst e1 e2 he3
      refine ⟨g, cap, rfl, by have := h4 0 (by simp); simpa using this, _, fun W' => slice_one W' _ _ _ (by simp), ?_⟩
      simp only [List.length_cons, Nat.add_sub_cancel]
      rcases Nat.eq_zero_or_pos xs.length with hz | hp
      · obtain rfl : xs = [] := List.length_eq_zero_iff.1 hz
        refine .inl ⟨.inr ?_, rfl⟩
        split
        · exact ⟨_, _, rfl⟩
        · exact ⟨_, _, rfl⟩
      · have hc1 : cap ≠ 1 := by simp at hn; omega
        rw [if_neg hc1]
        refine .inr ⟨g, 1, cap - 1, by simp [Addr.add], hp, by simp at hn; omega, h3, fun k hk => ?_⟩
        have h5 := h4 (k + 1) (by simp; omega)
        simp only [Nat.zero_add, List.getElem_cons_succ] at h5
        rw [Nat.add_comm 1 k]
        exact h5
/-- What a call leaves of a router whose fuse bears it, and what it tells. -/
def outS (s : Ro) : Int := s.outs.headD 0
def callS (s : Ro) (gen slot : Int) : Ro := if outS s = 2 then { s with outs := s.outs.tail } else if s.gen < gen then ⟨slot, gen, s.outs.tail, s.writes + 1⟩ else { s with outs := s.outs.tail }
def callE (s : Ro) (gen slot : Int) : Int := if outS s = 2 then 10 else if outS s = 1 then 10 else if s.gen < gen then 0 else if gen < s.gen ∨ slot ≠ s.slot then 11 else 0
def inRange (gen slot : Int) : Prop := 0 ≤ slot ∧ slot ≤ 1 ∧ 1 ≤ gen ∧ gen ≤ 1048576
set_option maxRecDepth 100000 in
set_option maxHeartbeats 4000000 in
theorem mcall_range (b : Nat) (gen slot : Int) (w : World) (hr : ¬ inRange gen slot) : Calls Try.prog 24 #[.pointer (some ⟨b, 0, none⟩), .int .i64 gen, .int .i64 slot] w fun e w' => e = .returned (.int .i64 1) ∧ w' = w := by
  unfold inRange at hr
  by_cases h1 : slot < 0
  · have e1 : decide (slot < 0) = true := by simpa using h1
    clear h1 hr
    go_enter Try.func24, Try.ntmps24
    go_wp2
    go_ret
    exact ⟨rfl, rfl⟩
  have e1 : decide (slot < 0) = false := by simpa using h1
  by_cases h2 : 1 < slot
  · have e2 : decide (1 < slot) = true := by simpa using h2
    clear h1 h2 hr
    go_enter Try.func24, Try.ntmps24
    go_wp2
    go_ret
    exact ⟨rfl, rfl⟩
  have e2 : decide (1 < slot) = false := by simpa using h2
  by_cases h3 : gen < 1
  · have e3 : decide (gen < 1) = true := by simpa using h3
    clear h1 h2 h3 hr
    go_enter Try.func24, Try.ntmps24
    go_wp2
    go_ret
    exact ⟨rfl, rfl⟩
  have e3 : decide (gen < 1) = false := by simpa using h3
  have e4 : decide (1048576 < gen) = true := decide_eq_true (by omega)
  clear h1 h2 h3 hr
  go_enter Try.func24, Try.ntmps24
  go_wp2
  go_ret
  exact ⟨rfl, rfl⟩
set_option maxRecDepth 100000 in
set_option maxHeartbeats 4000000 in
theorem mcall_halt (b g : Nat) (s : Ro) (fu fu' : Fu) (gen slot : Int) (v : Value) (w : World) (h : RoM w b g v s) (hf : Fz w g 27 fu) (hbg : b ≠ g) (hr : inRange gen slot) (hsp : ∀ W, Fz W g 27 fu → Calls Try.prog 29 #[.pointer (some ⟨g, 0, none⟩)] W fun e w' => e = .returned (.bool false) ∧ Fz w' g 27 fu' ∧ Only g W w') : Calls Try.prog 24 #[.pointer (some ⟨b, 0, none⟩), .int .i64 gen, .int .i64 slot] w fun e w' => e = .returned (.int .i64 2) ∧ (∃ v', RoM w' b g v' s ∧ New w v v') ∧ Fz w' g 27 fu' ∧ But b g w w' := by
  unfold inRange at hr
  obtain ⟨hrow, hown⟩ := h
  have hblt := lt_of_block hrow
  have e1 : decide (slot < 0) = false := decide_eq_false (by omega)
  have e2 : decide (1 < slot) = false := decide_eq_false (by omega)
  have e3 : decide (gen < 1) = false := decide_eq_false (by omega)
  have e4 : decide (1048576 < gen) = false := decide_eq_false (by omega)
  have c4 : w.cell? ⟨b, 4, none⟩ = some (.pointer (some ⟨g, 0, none⟩)) := by rw [cell_of_row w b 4 _ _ _ hrow]; rfl
  have HS := Lib.hid (hsp w hf)
  have HK : Hid (∀ w1, Fz w1 g 27 fu' → Only g w w1 → (∃ v', RoM w1 b g v' s ∧ New w v v') ∧ Fz w1 g 27 fu' ∧ But b g w w1) := Lib.hid (fun w1 hf1 ho => ⟨⟨v, ⟨(ho.block b hbg).trans hrow, hown.block (fun k _ ⟨cur, hk⟩ => ho.block k (by
    intro e
    subst e
    unfold Fz at hf
    rw [hk] at hf
    simp at hf))⟩, fun _ h => .inl h⟩, hf1, But.only ho⟩)
  clear hf hr hsp hrow hown hblt
  go_enter Try.func24, Try.ntmps24
  go_wp2_with fail
  refine HS.out.mono ?_
  rintro e w1 ⟨rfl, hf1, ho⟩
  have HZ := Lib.hid (HK.out w1 hf1 ho)
  clear hf1 ho HK
  go_wp2
  go_ret
  exact ⟨rfl, HZ.out⟩
set_option maxRecDepth 100000 in
set_option maxHeartbeats 4000000 in
theorem mcall_nil (b g : Nat) (s : Ro) (fu fu' : Fu) (gen slot : Int) (v : Value) (w : World) (h : RoM w b g v s) (hf : Fz w g 27 fu) (hbg : b ≠ g) (hr : inRange gen slot) (hsp : ∀ W, Fz W g 27 fu → Calls Try.prog 29 #[.pointer (some ⟨g, 0, none⟩)] W fun e w' => e = .returned (.bool true) ∧ Fz w' g 27 fu' ∧ Only g W w') (hwr : 0 ≤ s.writes ∧ s.writes ≤ 1000000) (ho0 : s.outs = []) : Calls Try.prog 24 #[.pointer (some ⟨b, 0, none⟩), .int .i64 gen, .int .i64 slot] w fun e w' => e = .returned (.int .i64 (callE s gen slot)) ∧ (∃ v', RoM w' b g v' (callS s gen slot) ∧ New w v v') ∧ Fz w' g 27 fu' ∧ But b g w w' := by
  unfold inRange at hr
  obtain ⟨hrow, hown⟩ := h
  have hblt := lt_of_block hrow
  have e1 : decide (slot < 0) = false := decide_eq_false (by omega)
  have e2 : decide (1 < slot) = false := decide_eq_false (by omega)
  have e3 : decide (gen < 1) = false := decide_eq_false (by omega)
  have e4 : decide (1048576 < gen) = false := decide_eq_false (by omega)
  have c4 : w.cell? ⟨b, 4, none⟩ = some (.pointer (some ⟨g, 0, none⟩)) := by rw [cell_of_row w b 4 _ _ _ hrow]; rfl
  have HS := Lib.hid (hsp w hf)
  have HWR := Lib.hid hwr
  have HBG := Lib.hid hbg
  have HO : Hid (outS s = 0) := Lib.hid (by unfold outS; rw [ho0]; rfl)
  have HTL : Hid (s.outs.tail = []) := Lib.hid (by rw [ho0]; rfl)
  clear hr hsp
  go_enter Try.func24, Try.ntmps24
  go_wp2_with fail
  refine HS.out.mono ?_
  rintro e w1 ⟨rfl, hf1, ho⟩
  have hrow1 : w1.heap[b]? = some (.cells #[.int .i64 s.slot, .int .i64 s.gen, v, .int .i64 s.writes, .pointer (some ⟨g, 0, none⟩)] 36 (0, 0)) := (ho.block b hbg).trans hrow
  have hown1 : Own w1 v s.outs := hown.block (fun k _ ⟨cur, hk⟩ => ho.block k (by
    intro e
    subst e
    unfold Fz at hf
    rw [hk] at hf
    simp at hf))
  have hbut := But.only (b := b) ho
  clear hrow hown hf ho c4 e1 e2 e3 e4 HS hblt
  rw [ho0] at hown1
  have hv : ∃ A c, v = .slice A 0 c := by
    rcases hown1.2 with ⟨rfl, _⟩ | ⟨_, _, _, rfl, _⟩ <;> exact ⟨_, _, rfl⟩
  obtain ⟨Ad, cp, rfl⟩ := hv
  have c2 : w1.cell? ⟨b, 2, none⟩ = some (.slice Ad 0 cp) := by rw [cell_of_row w1 b 2 _ _ _ hrow1]; rfl
  have RW1 := Lib.hid hrow1
  have OW1 := Lib.hid hown1
  have FW1 := Lib.hid hf1
  have BW1 := Lib.hid hbut
  clear hrow1 hown1 hf1 hbut ho0 hwr
  go_upto_region 9 with (fail)
  clear c2
  refine name_w (fun W => ∃ v2, W.heap[b]? = some (.cells #[.int .i64 s.slot, .int .i64 s.gen, v2, .int .i64 s.writes, .pointer (some ⟨g, 0, none⟩)] 36 (0, 0)) ∧ Own W v2 s.outs.tail ∧ Fz W g 27 fu' ∧ But b g w W ∧ New w (.slice Ad 0 cp) v2) ⟨_, RW1.out, by rw [HTL.out]; exact OW1.out, FW1.out, BW1.out, fun _ h => .inl h⟩ ?_
  rintro W ⟨v2, h1, h2, h3, h4, h5⟩
  have RW := Lib.hid h1
  have OW := Lib.hid h2
  have FW := Lib.hid h3
  have BW := Lib.hid h4
  have NW := Lib.hid h5
  clear h1 h2 h3 h4 h5
  have n2 : Hid (¬ outS s = 2) := Lib.hid (by rw [HO.out]; decide)
  have n1 : Hid (¬ outS s = 1) := Lib.hid (by rw [HO.out]; decide)
  by_cases hg : s.gen < gen
  case pos =>
    have f3 : decide (s.gen < gen) = true := by simpa using hg
    have HC : Hid (callS s gen slot = ⟨slot, gen, s.outs.tail, s.writes + 1⟩) := Lib.hid (by unfold callS; rw [if_neg n2.out, if_pos hg])
    have HE : Hid (callE s gen slot = 0) := Lib.hid (by unfold callE; rw [if_neg n2.out, if_neg n1.out, if_pos hg])
    clear hg
    have c0 : W.cell? ⟨b, 0, none⟩ = some (.int .i64 s.slot) := by rw [cell_of_row W b 0 _ _ _ RW.out]; rfl
    have c1 : W.cell? ⟨b, 1, none⟩ = some (.int .i64 s.gen) := by rw [cell_of_row W b 1 _ _ _ RW.out]; rfl
    have c3 : W.cell? ⟨b, 3, none⟩ = some (.int .i64 s.writes) := by rw [cell_of_row W b 3 _ _ _ RW.out]; rfl
    have q0 : W.frozen? ⟨b, 0, none⟩ = false := by simp [World.frozen?, show W.heap[b]? = _ from RW.out]
    have q1 : W.frozen? ⟨b, 1, none⟩ = false := by simp [World.frozen?, show W.heap[b]? = _ from RW.out]
    have q3 : W.frozen? ⟨b, 3, none⟩ = false := by simp [World.frozen?, show W.heap[b]? = _ from RW.out]
    have ew : IntKind.i64.wrap (s.writes + 1) = s.writes + 1 := IntWalk.i64_in _ (by have := HWR.out; omega)
    have RX := Lib.hid (heap_setCell_same _ _ 3 _ 36 (.int .i64 (s.writes + 1)) (heap_setCell_same _ _ 0 _ 36 (.int .i64 slot) (heap_setCell_same _ _ 1 _ 36 (.int .i64 gen) RW.out)))
    have OX : Hid (Own (((W.setCell ⟨b, 1, none⟩ (.int .i64 gen)).setCell ⟨b, 0, none⟩ (.int .i64 slot)).setCell ⟨b, 3, none⟩ (.int .i64 (s.writes + 1))) v2 s.outs.tail) := Lib.hid (OW.out.block (fun k _ ⟨cur, hk⟩ => by
      have hne : k ≠ b := by
        intro e
        subst e
        have h1 := RW.out
        rw [hk] at h1
        simp at h1
      rw [Below.heap_setCell _ _ _ _ hne, Below.heap_setCell _ _ _ _ hne, Below.heap_setCell _ _ _ _ hne]))
    have FX : Hid (Fz (((W.setCell ⟨b, 1, none⟩ (.int .i64 gen)).setCell ⟨b, 0, none⟩ (.int .i64 slot)).setCell ⟨b, 3, none⟩ (.int .i64 (s.writes + 1))) g 27 fu') := Lib.hid (by
      unfold Fz
      rw [Below.heap_setCell _ _ _ _ (Ne.symm HBG.out), Below.heap_setCell _ _ _ _ (Ne.symm HBG.out), Below.heap_setCell _ _ _ _ (Ne.symm HBG.out)]
      exact FW.out)
    have BX := Lib.hid (((BW.out.set 1 (.int .i64 gen)).set 0 (.int .i64 slot)).set 3 (.int .i64 (s.writes + 1)))
    clear RW OW FW BW
    go_wp2
    go_ret
    exact ⟨by rw [HE.out]; rfl, by rw [HC.out]; exact ⟨v2, ⟨RX.out, OX.out⟩, NW.out⟩, FX.out, BX.out⟩
  have f3 : decide (s.gen < gen) = false := by simpa using hg
  have HC : Hid (callS s gen slot = { s with outs := s.outs.tail }) := Lib.hid (by unfold callS; rw [if_neg n2.out, if_neg hg])
  by_cases hl : gen < s.gen
  case pos =>
    have f4 : decide (gen < s.gen) = true := by simpa using hl
    have HE : Hid (callE s gen slot = 11) := Lib.hid (by unfold callE; rw [if_neg n2.out, if_neg n1.out, if_neg hg, if_pos (Or.inl hl)])
    clear hg hl
    have c0 : W.cell? ⟨b, 0, none⟩ = some (.int .i64 s.slot) := by rw [cell_of_row W b 0 _ _ _ RW.out]; rfl
    have c1 : W.cell? ⟨b, 1, none⟩ = some (.int .i64 s.gen) := by rw [cell_of_row W b 1 _ _ _ RW.out]; rfl
    go_wp2
    go_ret
    exact ⟨by rw [HE.out]; rfl, by rw [HC.out]; exact ⟨v2, ⟨RW.out, OW.out⟩, NW.out⟩, FW.out, BW.out⟩
  have f4 : decide (gen < s.gen) = false := by simpa using hl
  by_cases hs : slot = s.slot
  case neg =>
    have f5 : (slot != s.slot) = true := by simpa using hs
    have HE : Hid (callE s gen slot = 11) := Lib.hid (by unfold callE; rw [if_neg n2.out, if_neg n1.out, if_neg hg, if_pos (Or.inr hs)])
    clear hg hl hs
    have c0 : W.cell? ⟨b, 0, none⟩ = some (.int .i64 s.slot) := by rw [cell_of_row W b 0 _ _ _ RW.out]; rfl
    have c1 : W.cell? ⟨b, 1, none⟩ = some (.int .i64 s.gen) := by rw [cell_of_row W b 1 _ _ _ RW.out]; rfl
    go_wp2
    go_ret
    exact ⟨by rw [HE.out]; rfl, by rw [HC.out]; exact ⟨v2, ⟨RW.out, OW.out⟩, NW.out⟩, FW.out, BW.out⟩
  have f5 : (slot != s.slot) = false := by simpa using hs
  have HE : Hid (callE s gen slot = 0) := Lib.hid (by unfold callE; rw [if_neg n2.out, if_neg n1.out, if_neg hg, if_neg (fun h => h.elim hl (fun h => h hs))])
  clear hg hl hs
  have c0 : W.cell? ⟨b, 0, none⟩ = some (.int .i64 s.slot) := by rw [cell_of_row W b 0 _ _ _ RW.out]; rfl
  have c1 : W.cell? ⟨b, 1, none⟩ = some (.int .i64 s.gen) := by rw [cell_of_row W b 1 _ _ _ RW.out]; rfl
  go_wp2
  go_ret
  exact ⟨by rw [HE.out]; rfl, by rw [HC.out]; exact ⟨v2, ⟨RW.out, OW.out⟩, NW.out⟩, FW.out, BW.out⟩
set_option maxRecDepth 100000 in
set_option maxHeartbeats 4000000 in
theorem mcall_cons (b g : Nat) (s : Ro) (fu fu' : Fu) (gen slot : Int) (v : Value) (w : World) (h : RoM w b g v s) (hf : Fz w g 27 fu) (hbg : b ≠ g) (hr : inRange gen slot) (hsp : ∀ W, Fz W g 27 fu → Calls Try.prog 29 #[.pointer (some ⟨g, 0, none⟩)] W fun e w' => e = .returned (.bool true) ∧ Fz w' g 27 fu' ∧ Only g W w') (hwr : 0 ≤ s.writes ∧ s.writes ≤ 1000000) (x : Int) (xs : List Int) (ho0 : s.outs = x :: xs) (hlen : xs.length ≤ 100000) : Calls Try.prog 24 #[.pointer (some ⟨b, 0, none⟩), .int .i64 gen, .int .i64 slot] w fun e w' => e = .returned (.int .i64 (callE s gen slot)) ∧ (∃ v', RoM w' b g v' (callS s gen slot) ∧ New w v v') ∧ Fz w' g 27 fu' ∧ But b g w w' := by
  unfold inRange at hr
  obtain ⟨hrow, hown⟩ := h
  have hblt := lt_of_block hrow
  have e1 : decide (slot < 0) = false := decide_eq_false (by omega)
  have e2 : decide (1 < slot) = false := decide_eq_false (by omega)
  have e3 : decide (gen < 1) = false := decide_eq_false (by omega)
  have e4 : decide (1048576 < gen) = false := decide_eq_false (by omega)
  have c4 : w.cell? ⟨b, 4, none⟩ = some (.pointer (some ⟨g, 0, none⟩)) := by rw [cell_of_row w b 4 _ _ _ hrow]; rfl
  have HS := Lib.hid (hsp w hf)
  have HWR := Lib.hid hwr
  have HBG := Lib.hid hbg
  have HO : Hid (outS s = x) := Lib.hid (by unfold outS; rw [ho0]; rfl)
  have HTL : Hid (s.outs.tail = xs) := Lib.hid (by rw [ho0]; rfl)
  clear hr hsp
  go_enter Try.func24, Try.ntmps24
  go_wp2_with fail
  refine HS.out.mono ?_
  rintro e w1 ⟨rfl, hf1, ho⟩
  have hrow1 : w1.heap[b]? = some (.cells #[.int .i64 s.slot, .int .i64 s.gen, v, .int .i64 s.writes, .pointer (some ⟨g, 0, none⟩)] 36 (0, 0)) := (ho.block b hbg).trans hrow
  have hown1 : Own w1 v s.outs := hown.block (fun k _ ⟨cur, hk⟩ => ho.block k (by
    intro e
    subst e
    unfold Fz at hf
    rw [hk] at hf
    simp at hf))
  have hbut := But.only (b := b) ho
  clear hrow hown hf ho c4 e1 e2 e3 e4 HS hblt
  rw [ho0] at hown1
  obtain ⟨e, c, rfl, ce, v1, es, hv1⟩ := own_tail hown1
  have c2 : w1.cell? ⟨b, 2, none⟩ = some (.slice (some ⟨e, 0, none⟩) (xs.length + 1) c) := by rw [cell_of_row w1 b 2 _ _ _ hrow1]; rfl
  have bs0 := build0
  have hb1 := lt_of_block hrow1
  have ba : Below w1.heap.size w1 (w1.alloc (.cells #[] 3)) := (Below.refl _ _).alloc (Nat.le_refl _) _
  obtain ⟨v2, W2, ea, o2, g2⟩ := append_ints (own0 w1 (Nat.le_refl _)) (hv1.under ba (Nat.le_refl _)) (Nat.le_of_lt (by simp)) (by simp; omega)
  rw [List.nil_append] at o2
  have b2 := below_grown ba g2 (fun k hk => by simp [Value.ownBlock] at hk; omega) (Nat.le_refl _)
  have hrow2 : W2.heap[b]? = some (.cells #[.int .i64 s.slot, .int .i64 s.gen, .slice (some ⟨e, 0, none⟩) (xs.length + 1) c, .int .i64 s.writes, .pointer (some ⟨g, 0, none⟩)] 36 (0, 0)) := (b2.block b hb1).trans hrow1
  have k2 : (w1.alloc (.cells #[] 3)).cell? ⟨b, 2, none⟩ = some (.slice (some ⟨e, 0, none⟩) (xs.length + 1) c) := (ba.cell (p := ⟨b, 2, none⟩) hb1).trans c2
  have d2 : W2.cell? ⟨b, 2, none⟩ = some (.slice (some ⟨e, 0, none⟩) (xs.length + 1) c) := by rw [cell_of_row W2 b 2 _ _ _ hrow2]; rfl
  have f2 : W2.frozen? ⟨b, 2, none⟩ = false := by simp [World.frozen?, hrow2]
  have hvv : ∃ A n c, v2 = .slice A n c := by
    rcases o2.2 with ⟨rfl, _⟩ | ⟨_, _, _, rfl, _⟩ <;> exact ⟨_, _, _, rfl⟩
  have HM : Hid ((W2.setCell ⟨b, 2, none⟩ v2).heap[b]? = some (.cells #[.int .i64 s.slot, .int .i64 s.gen, v2, .int .i64 s.writes, .pointer (some ⟨g, 0, none⟩)] 36 (0, 0)) ∧ Own (W2.setCell ⟨b, 2, none⟩ v2) v2 xs ∧ Fz (W2.setCell ⟨b, 2, none⟩ v2) g 27 fu' ∧ But b g w (W2.setCell ⟨b, 2, none⟩ v2) ∧ New w (.slice (some ⟨e, 0, none⟩) (xs.length + 1) c) v2) := Lib.hid ⟨heap_setCell_same _ _ 2 _ 36 v2 hrow2, Own.block (own_base o2) (fun k _ ⟨cur, hk⟩ => Below.heap_setCell _ _ _ _ (by
      show k ≠ b
      intro e
      subst e
      rw [hk] at hrow2
      simp at hrow2)), (Below.heap_setCell _ _ _ _ (Ne.symm hbg)).trans ((b2.block g hf1.lt).trans hf1), (hbut.trans (But.of_below b2)).set 2 v2, fun k hk => .inr (Nat.le_trans hbut.size (own_ge o2 k hk).1)⟩
  obtain ⟨A2, n2, cp2, rfl⟩ := hvv
  have E1 := Lib.hid ea
  clear hrow1 hown1 hf1 hbut ho0 hwr hv1 ba o2 g2 b2 hrow2 ea hb1 hbg hlen
  go_upto_region 9 with (at_builtin; refine wpList_append_is rfl (.tmp 42) (.tmp 47) 34 rfl rfl rfl E1.out ?_)
  clear c2 k2 d2 f2 es ce bs0
  refine name_w (fun W => ∃ v2, W.heap[b]? = some (.cells #[.int .i64 s.slot, .int .i64 s.gen, v2, .int .i64 s.writes, .pointer (some ⟨g, 0, none⟩)] 36 (0, 0)) ∧ Own W v2 s.outs.tail ∧ Fz W g 27 fu' ∧ But b g w W ∧ New w (.slice (some ⟨e, 0, none⟩) (xs.length + 1) c) v2) ⟨_, HM.out.1, by rw [HTL.out]; exact HM.out.2.1, HM.out.2.2.1, HM.out.2.2.2.1, HM.out.2.2.2.2⟩ ?_
  clear HM E1
  rintro W ⟨v2, h1, h2, h3, h4, h5⟩
  have RW := Lib.hid h1
  have OW := Lib.hid h2
  have FW := Lib.hid h3
  have BW := Lib.hid h4
  have NW := Lib.hid h5
  clear h1 h2 h3 h4 h5
  by_cases h2 : x = 2
  case pos =>
    have f1 : (x == 2) = true := by simpa using h2
    have HC : Hid (callS s gen slot = { s with outs := s.outs.tail }) := Lib.hid (by unfold callS; rw [if_pos (by rw [HO.out]; exact h2)])
    have HE : Hid (callE s gen slot = 10) := Lib.hid (by unfold callE; rw [if_pos (by rw [HO.out]; exact h2)])
    clear h2
    go_wp2
    go_ret
    exact ⟨by rw [HE.out]; rfl, by rw [HC.out]; exact ⟨v2, ⟨RW.out, OW.out⟩, NW.out⟩, FW.out, BW.out⟩
  have f1 : (x == 2) = false := by simpa using h2
  have n2 : Hid (¬ outS s = 2) := Lib.hid (by rw [HO.out]; exact h2)
  clear h2
  by_cases h1 : x = 1
  case pos =>
    have f2 : (x == 1) = true := by simpa using h1
    have n1 : Hid (outS s = 1) := Lib.hid (by rw [HO.out]; exact h1)
    clear h1
    by_cases hg : s.gen < gen
    case pos =>
      have f3 : decide (s.gen < gen) = true := by simpa using hg
      have HC : Hid (callS s gen slot = ⟨slot, gen, s.outs.tail, s.writes + 1⟩) := Lib.hid (by unfold callS; rw [if_neg n2.out, if_pos hg])
      have HE : Hid (callE s gen slot = 10) := Lib.hid (by unfold callE; rw [if_neg n2.out, if_pos n1.out])
      clear hg
      have c0 : W.cell? ⟨b, 0, none⟩ = some (.int .i64 s.slot) := by rw [cell_of_row W b 0 _ _ _ RW.out]; rfl
      have c1 : W.cell? ⟨b, 1, none⟩ = some (.int .i64 s.gen) := by rw [cell_of_row W b 1 _ _ _ RW.out]; rfl
      have c3 : W.cell? ⟨b, 3, none⟩ = some (.int .i64 s.writes) := by rw [cell_of_row W b 3 _ _ _ RW.out]; rfl
      have q0 : W.frozen? ⟨b, 0, none⟩ = false := by simp [World.frozen?, show W.heap[b]? = _ from RW.out]
      have q1 : W.frozen? ⟨b, 1, none⟩ = false := by simp [World.frozen?, show W.heap[b]? = _ from RW.out]
      have q3 : W.frozen? ⟨b, 3, none⟩ = false := by simp [World.frozen?, show W.heap[b]? = _ from RW.out]
      have ew : IntKind.i64.wrap (s.writes + 1) = s.writes + 1 := IntWalk.i64_in _ (by have := HWR.out; omega)
      have RX := Lib.hid (heap_setCell_same _ _ 3 _ 36 (.int .i64 (s.writes + 1)) (heap_setCell_same _ _ 0 _ 36 (.int .i64 slot) (heap_setCell_same _ _ 1 _ 36 (.int .i64 gen) RW.out)))
      have OX : Hid (Own (((W.setCell ⟨b, 1, none⟩ (.int .i64 gen)).setCell ⟨b, 0, none⟩ (.int .i64 slot)).setCell ⟨b, 3, none⟩ (.int .i64 (s.writes + 1))) v2 s.outs.tail) := Lib.hid (OW.out.block (fun k _ ⟨cur, hk⟩ => by
        have hne : k ≠ b := by
          intro e
          subst e
          have h1 := RW.out
          rw [hk] at h1
          simp at h1
        rw [Below.heap_setCell _ _ _ _ hne, Below.heap_setCell _ _ _ _ hne, Below.heap_setCell _ _ _ _ hne]))
      have FX : Hid (Fz (((W.setCell ⟨b, 1, none⟩ (.int .i64 gen)).setCell ⟨b, 0, none⟩ (.int .i64 slot)).setCell ⟨b, 3, none⟩ (.int .i64 (s.writes + 1))) g 27 fu') := Lib.hid (by
        unfold Fz
        rw [Below.heap_setCell _ _ _ _ (Ne.symm HBG.out), Below.heap_setCell _ _ _ _ (Ne.symm HBG.out), Below.heap_setCell _ _ _ _ (Ne.symm HBG.out)]
        exact FW.out)
      have BX := Lib.hid (((BW.out.set 1 (.int .i64 gen)).set 0 (.int .i64 slot)).set 3 (.int .i64 (s.writes + 1)))
      clear RW OW FW BW
      go_wp2
      go_ret
      exact ⟨by rw [HE.out]; rfl, by rw [HC.out]; exact ⟨v2, ⟨RX.out, OX.out⟩, NW.out⟩, FX.out, BX.out⟩
    have f3 : decide (s.gen < gen) = false := by simpa using hg
    have HC : Hid (callS s gen slot = { s with outs := s.outs.tail }) := Lib.hid (by unfold callS; rw [if_neg n2.out, if_neg hg])
    by_cases hl : gen < s.gen
    case pos =>
      have f4 : decide (gen < s.gen) = true := by simpa using hl
      have HE : Hid (callE s gen slot = 10) := Lib.hid (by unfold callE; rw [if_neg n2.out, if_pos n1.out])
      clear hg hl
      have c0 : W.cell? ⟨b, 0, none⟩ = some (.int .i64 s.slot) := by rw [cell_of_row W b 0 _ _ _ RW.out]; rfl
      have c1 : W.cell? ⟨b, 1, none⟩ = some (.int .i64 s.gen) := by rw [cell_of_row W b 1 _ _ _ RW.out]; rfl
      go_wp2
      go_ret
      exact ⟨by rw [HE.out]; rfl, by rw [HC.out]; exact ⟨v2, ⟨RW.out, OW.out⟩, NW.out⟩, FW.out, BW.out⟩
    have f4 : decide (gen < s.gen) = false := by simpa using hl
    by_cases hs : slot = s.slot
    case neg =>
      have f5 : (slot != s.slot) = true := by simpa using hs
      have HE : Hid (callE s gen slot = 10) := Lib.hid (by unfold callE; rw [if_neg n2.out, if_pos n1.out])
      clear hg hl hs
      have c0 : W.cell? ⟨b, 0, none⟩ = some (.int .i64 s.slot) := by rw [cell_of_row W b 0 _ _ _ RW.out]; rfl
      have c1 : W.cell? ⟨b, 1, none⟩ = some (.int .i64 s.gen) := by rw [cell_of_row W b 1 _ _ _ RW.out]; rfl
      go_wp2
      go_ret
      exact ⟨by rw [HE.out]; rfl, by rw [HC.out]; exact ⟨v2, ⟨RW.out, OW.out⟩, NW.out⟩, FW.out, BW.out⟩
    have f5 : (slot != s.slot) = false := by simpa using hs
    have HE : Hid (callE s gen slot = 10) := Lib.hid (by unfold callE; rw [if_neg n2.out, if_pos n1.out])
    clear hg hl hs
    have c0 : W.cell? ⟨b, 0, none⟩ = some (.int .i64 s.slot) := by rw [cell_of_row W b 0 _ _ _ RW.out]; rfl
    have c1 : W.cell? ⟨b, 1, none⟩ = some (.int .i64 s.gen) := by rw [cell_of_row W b 1 _ _ _ RW.out]; rfl
    go_wp2
    go_ret
    exact ⟨by rw [HE.out]; rfl, by rw [HC.out]; exact ⟨v2, ⟨RW.out, OW.out⟩, NW.out⟩, FW.out, BW.out⟩
  have f2 : (x == 1) = false := by simpa using h1
  have n1 : Hid (¬ outS s = 1) := Lib.hid (by rw [HO.out]; exact h1)
  clear h1
  by_cases hg : s.gen < gen
  case pos =>
    have f3 : decide (s.gen < gen) = true := by simpa using hg
    have HC : Hid (callS s gen slot = ⟨slot, gen, s.outs.tail, s.writes + 1⟩) := Lib.hid (by unfold callS; rw [if_neg n2.out, if_pos hg])
    have HE : Hid (callE s gen slot = 0) := Lib.hid (by unfold callE; rw [if_neg n2.out, if_neg n1.out, if_pos hg])
    clear hg
    have c0 : W.cell? ⟨b, 0, none⟩ = some (.int .i64 s.slot) := by rw [cell_of_row W b 0 _ _ _ RW.out]; rfl
    have c1 : W.cell? ⟨b, 1, none⟩ = some (.int .i64 s.gen) := by rw [cell_of_row W b 1 _ _ _ RW.out]; rfl
    have c3 : W.cell? ⟨b, 3, none⟩ = some (.int .i64 s.writes) := by rw [cell_of_row W b 3 _ _ _ RW.out]; rfl
    have q0 : W.frozen? ⟨b, 0, none⟩ = false := by simp [World.frozen?, show W.heap[b]? = _ from RW.out]
    have q1 : W.frozen? ⟨b, 1, none⟩ = false := by simp [World.frozen?, show W.heap[b]? = _ from RW.out]
    have q3 : W.frozen? ⟨b, 3, none⟩ = false := by simp [World.frozen?, show W.heap[b]? = _ from RW.out]
    have ew : IntKind.i64.wrap (s.writes + 1) = s.writes + 1 := IntWalk.i64_in _ (by have := HWR.out; omega)
    have RX := Lib.hid (heap_setCell_same _ _ 3 _ 36 (.int .i64 (s.writes + 1)) (heap_setCell_same _ _ 0 _ 36 (.int .i64 slot) (heap_setCell_same _ _ 1 _ 36 (.int .i64 gen) RW.out)))
    have OX : Hid (Own (((W.setCell ⟨b, 1, none⟩ (.int .i64 gen)).setCell ⟨b, 0, none⟩ (.int .i64 slot)).setCell ⟨b, 3, none⟩ (.int .i64 (s.writes + 1))) v2 s.outs.tail) := Lib.hid (OW.out.block (fun k _ ⟨cur, hk⟩ => by
      have hne : k ≠ b := by
        intro e
        subst e
        have h1 := RW.out
        rw [hk] at h1
        simp at h1
      rw [Below.heap_setCell _ _ _ _ hne, Below.heap_setCell _ _ _ _ hne, Below.heap_setCell _ _ _ _ hne]))
    have FX : Hid (Fz (((W.setCell ⟨b, 1, none⟩ (.int .i64 gen)).setCell ⟨b, 0, none⟩ (.int .i64 slot)).setCell ⟨b, 3, none⟩ (.int .i64 (s.writes + 1))) g 27 fu') := Lib.hid (by
      unfold Fz
      rw [Below.heap_setCell _ _ _ _ (Ne.symm HBG.out), Below.heap_setCell _ _ _ _ (Ne.symm HBG.out), Below.heap_setCell _ _ _ _ (Ne.symm HBG.out)]
      exact FW.out)
    have BX := Lib.hid (((BW.out.set 1 (.int .i64 gen)).set 0 (.int .i64 slot)).set 3 (.int .i64 (s.writes + 1)))
    clear RW OW FW BW
    go_wp2
    go_ret
    exact ⟨by rw [HE.out]; rfl, by rw [HC.out]; exact ⟨v2, ⟨RX.out, OX.out⟩, NW.out⟩, FX.out, BX.out⟩
  have f3 : decide (s.gen < gen) = false := by simpa using hg
  have HC : Hid (callS s gen slot = { s with outs := s.outs.tail }) := Lib.hid (by unfold callS; rw [if_neg n2.out, if_neg hg])
  by_cases hl : gen < s.gen
  case pos =>
    have f4 : decide (gen < s.gen) = true := by simpa using hl
    have HE : Hid (callE s gen slot = 11) := Lib.hid (by unfold callE; rw [if_neg n2.out, if_neg n1.out, if_neg hg, if_pos (Or.inl hl)])
    clear hg hl
    have c0 : W.cell? ⟨b, 0, none⟩ = some (.int .i64 s.slot) := by rw [cell_of_row W b 0 _ _ _ RW.out]; rfl
    have c1 : W.cell? ⟨b, 1, none⟩ = some (.int .i64 s.gen) := by rw [cell_of_row W b 1 _ _ _ RW.out]; rfl
    go_wp2
    go_ret
    exact ⟨by rw [HE.out]; rfl, by rw [HC.out]; exact ⟨v2, ⟨RW.out, OW.out⟩, NW.out⟩, FW.out, BW.out⟩
  have f4 : decide (gen < s.gen) = false := by simpa using hl
  by_cases hs : slot = s.slot
  case neg =>
    have f5 : (slot != s.slot) = true := by simpa using hs
    have HE : Hid (callE s gen slot = 11) := Lib.hid (by unfold callE; rw [if_neg n2.out, if_neg n1.out, if_neg hg, if_pos (Or.inr hs)])
    clear hg hl hs
    have c0 : W.cell? ⟨b, 0, none⟩ = some (.int .i64 s.slot) := by rw [cell_of_row W b 0 _ _ _ RW.out]; rfl
    have c1 : W.cell? ⟨b, 1, none⟩ = some (.int .i64 s.gen) := by rw [cell_of_row W b 1 _ _ _ RW.out]; rfl
    go_wp2
    go_ret
    exact ⟨by rw [HE.out]; rfl, by rw [HC.out]; exact ⟨v2, ⟨RW.out, OW.out⟩, NW.out⟩, FW.out, BW.out⟩
  have f5 : (slot != s.slot) = false := by simpa using hs
  have HE : Hid (callE s gen slot = 0) := Lib.hid (by unfold callE; rw [if_neg n2.out, if_neg n1.out, if_neg hg, if_neg (fun h => h.elim hl (fun h => h hs))])
  clear hg hl hs
  have c0 : W.cell? ⟨b, 0, none⟩ = some (.int .i64 s.slot) := by rw [cell_of_row W b 0 _ _ _ RW.out]; rfl
  have c1 : W.cell? ⟨b, 1, none⟩ = some (.int .i64 s.gen) := by rw [cell_of_row W b 1 _ _ _ RW.out]; rfl
  go_wp2
  go_ret
  exact ⟨by rw [HE.out]; rfl, by rw [HC.out]; exact ⟨v2, ⟨RW.out, OW.out⟩, NW.out⟩, FW.out, BW.out⟩
end Go.Proofs.Ytjalmfomeehpgaa
