/-
  What calls of one route, one behind the other, tell and leave: st, last; where Set ends: SetJ.
  package client's Set, and the document's, over any predicate that a call turns as the document says.
  The document's own Set, over any predicate that a call turns as the document says.
  Set of a router with its fuse (Pk).
-/
import Derived.Test.YtchaeidmjoelnaaGreatPkF
import Derived.Deep.LoopGhost
namespace Go.Proofs.YtchaeidmjoelnaaGreat
open Go.RowKit

/-- The router and its fuse behind i calls of one route. -/
def st (gen slot : Int) (s : Ro) (f : Fu) : Nat → Ro × Fu
  | 0 => (s, f)
  | i + 1 => (leftC (st gen slot s f i).1 (st gen slot s f i).2 gen slot, fuseC (st gen slot s f i).2 gen slot)
/-- What the i-th of them tells (ahead of the first: ErrRouter). -/
def last (gen slot : Int) (s : Ro) (f : Fu) : Nat → Int
  | 0 => 10
  | i + 1 => toldC (st gen slot s f i).1 (st gen slot s f i).2 gen slot
/-- How many there may be. -/
def triesC (n : Int) : Int := if n < 1 then 1 else if 8 < n then 8 else n
theorem triesC_in (n : Int) : 1 ≤ triesC n ∧ triesC n ≤ 8 := by
  unfold triesC
  by_cases h1 : n < 1
  · rw [if_pos h1]; omega
  · rw [if_neg h1]
    by_cases h2 : 8 < n
    · rw [if_pos h2]; omega
    · rw [if_neg h2]; omega
/-- Set ends behind j calls. -/
structure SetJ (gen slot : Int) (s : Ro) (f : Fu) (M : Int) (j : Nat) : Prop where
  pos : 1 ≤ j
  le : (j : Int) ≤ M
  ahead : ∀ i, i < j → last gen slot s f i = 10
  fin : last gen slot s f j ≠ 10 ∨ (j : Int) = M
theorem SetJ.uniq {gen slot : Int} {s : Ro} {f : Fu} {M : Int} {j k : Nat} (h : SetJ gen slot s f M j) (h' : SetJ gen slot s f M k) : j = k := by
  rcases Nat.lt_trichotomy j k with hl | he | hl
  · rcases h.fin with e | e
    · exact absurd (h'.ahead j hl) e
    · have := h'.le; omega
  · exact he
  · rcases h'.fin with e | e
    · exact absurd (h.ahead k hl) e
    · have := h.le; omega
theorem bd_st {gen slot : Int} {s : Ro} {f : Fu} {n : Nat} (h : Bd n s f) (i : Nat) : Bd (n + i) (st gen slot s f i).1 (st gen slot s f i).2 := by
  induction i with
  | zero => exact h
  | succ i ih => exact ih.call gen slot
theorem Bd.up {n m : Nat} {s : Ro} {f : Fu} (h : Bd n s f) (hm : n ≤ m) : Bd m s f :=
  ⟨h.left, h.blown, by have := h.count; omega, by have := h.writes; omega, by have := h.outs; omega⟩
end Go.Proofs.YtchaeidmjoelnaaGreat
namespace Go.Proofs.YtchaeidmjoelnaaGreat
open Go.RowKit

/-- Every block of a route is as it was. -/
def Kept33 (w w' : World) : Prop := ∀ (k : Nat) (cur : Array Value), w.heap[k]? = some (.cells cur 55 (0, 0)) → w'.heap[k]? = some (.cells cur 55 (0, 0))
/-- Calls of function fn, of the thing at block b, turn P as the document says. -/
structure CallsAs (fn : Nat) (b : Nat) (gen slot : Int) (P : Ro → Fu → World → Prop) : Prop where
  keep : ∀ s f W W', P s f W → Below W.heap.size W W' → P s f W'
  call : ∀ s f n W, P s f W → Bd n s f → n < 100000 → Calls Tryz.prog fn #[.pointer (some ⟨b, 0, none⟩), .int .i64 gen, .int .i64 slot] W fun e w' => e = .returned (.int .i64 (toldC s f gen slot)) ∧ P (leftC s f gen slot) (fuseC f gen slot) w' ∧ Kept33 W w'
set_option maxRecDepth 100000 in
set_option maxHeartbeats 4000000 in
theorem set_low (b : Nat) (gen slot tries : Int) (P : Ro → Fu → World → Prop) (hP : CallsAs 85 b gen slot P) (n : Nat) (s : Ro) (f : Fu) (w : World) (h : P s f w) (hd : Bd n s f) (hn : n + 8 < 100000) (ht : tries < 1) :
    Calls Tryz.prog 70 #[.pointer (some ⟨b, 0, none⟩), .agg #[.int .i64 slot, .int .i64 gen], .int .i64 tries] w fun e w' => ∃ j, SetJ gen slot s f 1 j ∧ e = .returned (.tuple #[.int .i64 (last gen slot s f j), .int .i64 (j : Int)]) ∧ P (st gen slot s f j).1 (st gen slot s f j).2 w' := by
  have HC : Hid (∀ i, i ≤ 8 → ∀ W, P (st gen slot s f i).1 (st gen slot s f i).2 W → Calls Tryz.prog 85 #[.pointer (some ⟨b, 0, none⟩), .int .i64 gen, .int .i64 slot] W fun e w' => e = .returned (.int .i64 (last gen slot s f (i + 1))) ∧ P (st gen slot s f (i + 1)).1 (st gen slot s f (i + 1)).2 w' ∧ Kept33 W w') := Lib.hid (fun i hi W hw => hP.call _ _ (n + i) W hw (bd_st hd i) (by omega))
  have HP := Lib.hid hP
  have HH := Lib.hid h
  clear hP h hd
  go_enter Tryz.func70, Tryz.ntmps70
  go_upto_region 2 with (fail)
  obtain ⟨C, hC⟩ : ∃ X, X = w.heap.size := ⟨_, rfl⟩
  rw [← hC]
  refine name_w (fun W => W.heap[C]? = some (.cells #[.int .i64 slot, .int .i64 gen] 55 (0, 0)) ∧ P s f W) ?_ ?_
  · rw [hC]
    exact ⟨heap_alloc_new w _, HP.out.keep s f _ _ HH.out ((Below.refl w.heap.size w).alloc (Nat.le_refl _) _)⟩
  clear hC HH
  rintro w1 ⟨hc, h1⟩
  have c0 : w1.cell? ⟨C, 0, none⟩ = some (.int .i64 slot) := by rw [cell_of_row w1 C 0 _ _ _ hc]; rfl
  have c1 : w1.cell? ⟨C, 1, none⟩ = some (.int .i64 gen) := by rw [cell_of_row w1 C 1 _ _ _ hc]; rfl
  have H1 := Lib.hid h1
  have R1 := Lib.hid hc
  clear h1 hc
  go_wp2_with fail
  refine (HC.out 0 (by omega) w1 H1.out).mono ?_
  rintro e w2 ⟨rfl, h2, hk⟩
  have H2 := Lib.hid h2
  have R2 := Lib.hid (hk _ _ R1.out)
  clear h2 hk R1 H1 c0 c1
  go_wp2
  go_loopg [9, 10] 7 (fun gg tv cv wr => ∃ j : Nat, Hid (gg = 8 - j) ∧ 1 ≤ j ∧ Hid ((j : Int) ≤ 1) ∧ tv = .int .i64 (last gen slot s f j) ∧ cv = .int .i64 (j : Int) ∧ Hid (∀ i, i < j → last gen slot s f i = 10) ∧ Hid (P (st gen slot s f j).1 (st gen slot s f j).2 wr) ∧ Hid (wr.heap[C]? = some (.cells #[.int .i64 slot, .int .i64 gen] 55 (0, 0))))
  case atStart => exact ⟨1, Lib.hid rfl, Nat.le_refl _, Lib.hid (by omega), rfl, rfl, Lib.hid (fun i hi => by rw [Nat.lt_one_iff.1 hi]; rfl), H2, R2⟩
  case round =>
    obtain ⟨j, HG, hj1, HLE, rfl, rfl, HAH, HPj, HR⟩ := hrel
    clear H2 R2
    obtain ⟨tt, htt⟩ : ∃ x, x = last gen slot s f j := ⟨_, rfl⟩
    rw [← htt]
    have HT := Lib.hid htt
    clear htt
    by_cases h10 : tt = 10
    case neg =>
      have e1 : (tt == 10) = false := by simpa using h10
      have HN := Lib.hid h10
      clear h10
      go_wp2
      go_ret2
      exact ⟨j, ⟨hj1, HLE.out, HAH.out, .inl (by rw [← HT.out]; exact HN.out)⟩, by rw [← HT.out]; rfl, HPj.out⟩
    subst h10
    by_cases hl : (j : Int) < 1
    case neg =>
      have e2 : decide ((j : Int) < 1) = false := decide_eq_false hl
      have e3 : decide (j < 1) = false := by simp at hl ⊢; omega
      have HL := Lib.hid hl
      clear hl
      go_wp2
      go_ret2
      exact ⟨j, ⟨hj1, HLE.out, HAH.out, .inr (by have := HLE.out; have := HL.out; omega)⟩, by rw [← HT.out]; rfl, HPj.out⟩
    have e2 : decide ((j : Int) < 1) = true := decide_eq_true hl
    have e3 : decide (j < 1) = true := by simp at hl ⊢; omega
    have HL := Lib.hid hl
    have H8 : Hid (j < 8) := Lib.hid (by omega)
    have hj8 : j ≤ 8 := by omega
    clear hl
    have c0 : wr.cell? ⟨C, 0, none⟩ = some (.int .i64 slot) := by rw [cell_of_row wr C 0 _ _ _ HR.out]; rfl
    have c1 : wr.cell? ⟨C, 1, none⟩ = some (.int .i64 gen) := by rw [cell_of_row wr C 1 _ _ _ HR.out]; rfl
    go_wp2_with fail
    refine (HC.out j hj8 wr HPj.out).mono ?_
    rintro e w3 ⟨rfl, h3, hk⟩
    have H3 := Lib.hid h3
    have R3 := Lib.hid (hk _ _ HR.out)
    clear h3 hk c0 c1 e2 e3 HPj HR
    go_wp2
    go_roundg (8 - (j + 1))
    case measure => have := HG.out; have := H8.out; omega
    case rel => exact ⟨j + 1, Lib.hid rfl, by omega, Lib.hid (by have := HL.out; omega), rfl, by go_num, Lib.hid (fun i hi => by
      rcases Nat.lt_succ_iff_lt_or_eq.1 hi with h | h
      · exact HAH.out i h
      · rw [h]; exact HT.out.symm), H3, R3⟩
set_option maxRecDepth 100000 in
set_option maxHeartbeats 4000000 in
theorem set_mid (b : Nat) (gen slot tries : Int) (P : Ro → Fu → World → Prop) (hP : CallsAs 85 b gen slot P) (n : Nat) (s : Ro) (f : Fu) (w : World) (h : P s f w) (hd : Bd n s f) (hn : n + 8 < 100000) (ht : 1 ≤ tries) (ht8 : tries ≤ 8) :
    Calls Tryz.prog 70 #[.pointer (some ⟨b, 0, none⟩), .agg #[.int .i64 slot, .int .i64 gen], .int .i64 tries] w fun e w' => ∃ j, SetJ gen slot s f tries j ∧ e = .returned (.tuple #[.int .i64 (last gen slot s f j), .int .i64 (j : Int)]) ∧ P (st gen slot s f j).1 (st gen slot s f j).2 w' := by
  have HC : Hid (∀ i, i ≤ 8 → ∀ W, P (st gen slot s f i).1 (st gen slot s f i).2 W → Calls Tryz.prog 85 #[.pointer (some ⟨b, 0, none⟩), .int .i64 gen, .int .i64 slot] W fun e w' => e = .returned (.int .i64 (last gen slot s f (i + 1))) ∧ P (st gen slot s f (i + 1)).1 (st gen slot s f (i + 1)).2 w' ∧ Kept33 W w') := Lib.hid (fun i hi W hw => hP.call _ _ (n + i) W hw (bd_st hd i) (by omega))
  have HP := Lib.hid hP
  have HH := Lib.hid h
  clear hP h hd
  go_enter Tryz.func70, Tryz.ntmps70
  go_upto_region 2 with (fail)
  obtain ⟨C, hC⟩ : ∃ X, X = w.heap.size := ⟨_, rfl⟩
  rw [← hC]
  refine name_w (fun W => W.heap[C]? = some (.cells #[.int .i64 slot, .int .i64 gen] 55 (0, 0)) ∧ P s f W) ?_ ?_
  · rw [hC]
    exact ⟨heap_alloc_new w _, HP.out.keep s f _ _ HH.out ((Below.refl w.heap.size w).alloc (Nat.le_refl _) _)⟩
  clear hC HH
  rintro w1 ⟨hc, h1⟩
  have c0 : w1.cell? ⟨C, 0, none⟩ = some (.int .i64 slot) := by rw [cell_of_row w1 C 0 _ _ _ hc]; rfl
  have c1 : w1.cell? ⟨C, 1, none⟩ = some (.int .i64 gen) := by rw [cell_of_row w1 C 1 _ _ _ hc]; rfl
  have H1 := Lib.hid h1
  have R1 := Lib.hid hc
  clear h1 hc
  go_wp2_with fail
  refine (HC.out 0 (by omega) w1 H1.out).mono ?_
  rintro e w2 ⟨rfl, h2, hk⟩
  have H2 := Lib.hid h2
  have R2 := Lib.hid (hk _ _ R1.out)
  clear h2 hk R1 H1 c0 c1
  go_wp2
  go_loopg [9, 10] 7 (fun gg tv cv wr => ∃ j : Nat, Hid (gg = 8 - j) ∧ 1 ≤ j ∧ Hid ((j : Int) ≤ tries) ∧ tv = .int .i64 (last gen slot s f j) ∧ cv = .int .i64 (j : Int) ∧ Hid (∀ i, i < j → last gen slot s f i = 10) ∧ Hid (P (st gen slot s f j).1 (st gen slot s f j).2 wr) ∧ Hid (wr.heap[C]? = some (.cells #[.int .i64 slot, .int .i64 gen] 55 (0, 0))))
  case atStart => exact ⟨1, Lib.hid rfl, Nat.le_refl _, Lib.hid (by omega), rfl, rfl, Lib.hid (fun i hi => by rw [Nat.lt_one_iff.1 hi]; rfl), H2, R2⟩
  case round =>
    obtain ⟨j, HG, hj1, HLE, rfl, rfl, HAH, HPj, HR⟩ := hrel
    clear H2 R2
    obtain ⟨tt, htt⟩ : ∃ x, x = last gen slot s f j := ⟨_, rfl⟩
    rw [← htt]
    have HT := Lib.hid htt
    clear htt
    by_cases h10 : tt = 10
    case neg =>
      have e1 : (tt == 10) = false := by simpa using h10
      have HN := Lib.hid h10
      clear h10
      go_wp2
      go_ret2
      exact ⟨j, ⟨hj1, HLE.out, HAH.out, .inl (by rw [← HT.out]; exact HN.out)⟩, by rw [← HT.out]; rfl, HPj.out⟩
    subst h10
    by_cases hl : (j : Int) < tries
    case neg =>
      have e2 : decide ((j : Int) < tries) = false := decide_eq_false hl

      have HL := Lib.hid hl
      clear hl
      go_wp2
      go_ret2
      exact ⟨j, ⟨hj1, HLE.out, HAH.out, .inr (by have := HLE.out; have := HL.out; omega)⟩, by rw [← HT.out]; rfl, HPj.out⟩
    have e2 : decide ((j : Int) < tries) = true := decide_eq_true hl

    have HL := Lib.hid hl
    have H8 : Hid (j < 8) := Lib.hid (by omega)
    have hj8 : j ≤ 8 := by omega
    clear hl
    have c0 : wr.cell? ⟨C, 0, none⟩ = some (.int .i64 slot) := by rw [cell_of_row wr C 0 _ _ _ HR.out]; rfl
    have c1 : wr.cell? ⟨C, 1, none⟩ = some (.int .i64 gen) := by rw [cell_of_row wr C 1 _ _ _ HR.out]; rfl
    go_wp2_with fail
    refine (HC.out j hj8 wr HPj.out).mono ?_
    rintro e w3 ⟨rfl, h3, hk⟩
    have H3 := Lib.hid h3
    have R3 := Lib.hid (hk _ _ HR.out)
    clear h3 hk c0 c1 e2 HPj HR
    go_wp2
    go_roundg (8 - (j + 1))
    case measure => have := HG.out; have := H8.out; omega
    case rel => exact ⟨j + 1, Lib.hid rfl, by omega, Lib.hid (by have := HL.out; omega), rfl, by go_num, Lib.hid (fun i hi => by
      rcases Nat.lt_succ_iff_lt_or_eq.1 hi with h | h
      · exact HAH.out i h
      · rw [h]; exact HT.out.symm), H3, R3⟩
set_option maxRecDepth 100000 in
set_option maxHeartbeats 4000000 in
theorem set_high (b : Nat) (gen slot tries : Int) (P : Ro → Fu → World → Prop) (hP : CallsAs 85 b gen slot P) (n : Nat) (s : Ro) (f : Fu) (w : World) (h : P s f w) (hd : Bd n s f) (hn : n + 8 < 100000) (ht : 8 < tries) :
    Calls Tryz.prog 70 #[.pointer (some ⟨b, 0, none⟩), .agg #[.int .i64 slot, .int .i64 gen], .int .i64 tries] w fun e w' => ∃ j, SetJ gen slot s f 8 j ∧ e = .returned (.tuple #[.int .i64 (last gen slot s f j), .int .i64 (j : Int)]) ∧ P (st gen slot s f j).1 (st gen slot s f j).2 w' := by
  have HC : Hid (∀ i, i ≤ 8 → ∀ W, P (st gen slot s f i).1 (st gen slot s f i).2 W → Calls Tryz.prog 85 #[.pointer (some ⟨b, 0, none⟩), .int .i64 gen, .int .i64 slot] W fun e w' => e = .returned (.int .i64 (last gen slot s f (i + 1))) ∧ P (st gen slot s f (i + 1)).1 (st gen slot s f (i + 1)).2 w' ∧ Kept33 W w') := Lib.hid (fun i hi W hw => hP.call _ _ (n + i) W hw (bd_st hd i) (by omega))
  have HP := Lib.hid hP
  have HH := Lib.hid h
  clear hP h hd
  go_enter Tryz.func70, Tryz.ntmps70
  go_upto_region 2 with (fail)
  obtain ⟨C, hC⟩ : ∃ X, X = w.heap.size := ⟨_, rfl⟩
  rw [← hC]
  refine name_w (fun W => W.heap[C]? = some (.cells #[.int .i64 slot, .int .i64 gen] 55 (0, 0)) ∧ P s f W) ?_ ?_
  · rw [hC]
    exact ⟨heap_alloc_new w _, HP.out.keep s f _ _ HH.out ((Below.refl w.heap.size w).alloc (Nat.le_refl _) _)⟩
  clear hC HH
  rintro w1 ⟨hc, h1⟩
  have c0 : w1.cell? ⟨C, 0, none⟩ = some (.int .i64 slot) := by rw [cell_of_row w1 C 0 _ _ _ hc]; rfl
  have c1 : w1.cell? ⟨C, 1, none⟩ = some (.int .i64 gen) := by rw [cell_of_row w1 C 1 _ _ _ hc]; rfl
  have H1 := Lib.hid h1
  have R1 := Lib.hid hc
  clear h1 hc
  go_wp2_with fail
  refine (HC.out 0 (by omega) w1 H1.out).mono ?_
  rintro e w2 ⟨rfl, h2, hk⟩
  have H2 := Lib.hid h2
  have R2 := Lib.hid (hk _ _ R1.out)
  clear h2 hk R1 H1 c0 c1
  go_wp2
  go_loopg [9, 10] 7 (fun gg tv cv wr => ∃ j : Nat, Hid (gg = 8 - j) ∧ 1 ≤ j ∧ Hid ((j : Int) ≤ 8) ∧ tv = .int .i64 (last gen slot s f j) ∧ cv = .int .i64 (j : Int) ∧ Hid (∀ i, i < j → last gen slot s f i = 10) ∧ Hid (P (st gen slot s f j).1 (st gen slot s f j).2 wr) ∧ Hid (wr.heap[C]? = some (.cells #[.int .i64 slot, .int .i64 gen] 55 (0, 0))))
  case atStart => exact ⟨1, Lib.hid rfl, Nat.le_refl _, Lib.hid (by omega), rfl, rfl, Lib.hid (fun i hi => by rw [Nat.lt_one_iff.1 hi]; rfl), H2, R2⟩
  case round =>
    obtain ⟨j, HG, hj1, HLE, rfl, rfl, HAH, HPj, HR⟩ := hrel
    clear H2 R2
    obtain ⟨tt, htt⟩ : ∃ x, x = last gen slot s f j := ⟨_, rfl⟩
    rw [← htt]
    have HT := Lib.hid htt
    clear htt
    by_cases h10 : tt = 10
    case neg =>
      have e1 : (tt == 10) = false := by simpa using h10
      have HN := Lib.hid h10
      clear h10
      go_wp2
      go_ret2
      exact ⟨j, ⟨hj1, HLE.out, HAH.out, .inl (by rw [← HT.out]; exact HN.out)⟩, by rw [← HT.out]; rfl, HPj.out⟩
    subst h10
    by_cases hl : (j : Int) < 8
    case neg =>
      have e2 : decide ((j : Int) < 8) = false := decide_eq_false hl
      have e3 : decide (j < 8) = false := by simp at hl ⊢; omega
      have HL := Lib.hid hl
      clear hl
      go_wp2
      go_ret2
      exact ⟨j, ⟨hj1, HLE.out, HAH.out, .inr (by have := HLE.out; have := HL.out; omega)⟩, by rw [← HT.out]; rfl, HPj.out⟩
    have e2 : decide ((j : Int) < 8) = true := decide_eq_true hl
    have e3 : decide (j < 8) = true := by simp at hl ⊢; omega
    have HL := Lib.hid hl
    have H8 : Hid (j < 8) := Lib.hid (by omega)
    have hj8 : j ≤ 8 := by omega
    clear hl
    have c0 : wr.cell? ⟨C, 0, none⟩ = some (.int .i64 slot) := by rw [cell_of_row wr C 0 _ _ _ HR.out]; rfl
    have c1 : wr.cell? ⟨C, 1, none⟩ = some (.int .i64 gen) := by rw [cell_of_row wr C 1 _ _ _ HR.out]; rfl
    go_wp2_with fail
    refine (HC.out j hj8 wr HPj.out).mono ?_
    rintro e w3 ⟨rfl, h3, hk⟩
    have H3 := Lib.hid h3
    have R3 := Lib.hid (hk _ _ HR.out)
    clear h3 hk c0 c1 e2 e3 HPj HR
    go_wp2
    go_roundg (8 - (j + 1))
    case measure => have := HG.out; have := H8.out; omega
    case rel => exact ⟨j + 1, Lib.hid rfl, by omega, Lib.hid (by have := HL.out; omega), rfl, by go_num, Lib.hid (fun i hi => by
      rcases Nat.lt_succ_iff_lt_or_eq.1 hi with h | h
      · exact HAH.out i h
      · rw [h]; exact HT.out.symm), H3, R3⟩
theorem set_any (b : Nat) (gen slot tries : Int) (P : Ro → Fu → World → Prop) (hP : CallsAs 85 b gen slot P) (n : Nat) (s : Ro) (f : Fu) (w : World) (h : P s f w) (hd : Bd n s f) (hn : n + 8 < 100000) :
    Calls Tryz.prog 70 #[.pointer (some ⟨b, 0, none⟩), .agg #[.int .i64 slot, .int .i64 gen], .int .i64 tries] w fun e w' => ∃ j, SetJ gen slot s f (triesC tries) j ∧ e = .returned (.tuple #[.int .i64 (last gen slot s f j), .int .i64 (j : Int)]) ∧ P (st gen slot s f j).1 (st gen slot s f j).2 w' := by
  unfold triesC
  by_cases h1 : tries < 1
  · rw [if_pos h1]; exact set_low b gen slot tries P hP n s f w h hd hn h1
  · rw [if_neg h1]
    by_cases h2 : 8 < tries
    · rw [if_pos h2]; exact set_high b gen slot tries P hP n s f w h hd hn h2
    · rw [if_neg h2]; exact set_mid b gen slot tries P hP n s f w h hd hn (by omega) (by omega)
end Go.Proofs.YtchaeidmjoelnaaGreat
namespace Go.Proofs.YtchaeidmjoelnaaGreat
open Go.RowKit

theorem tries_any (n : Int) (w : World) : Calls Tryz.prog 58 #[.int .i64 n] w fun e w' => e = .returned (.int .i64 (triesC n)) ∧ w = w' := by
  unfold triesC
  by_cases h1 : n < 1
  · rw [if_pos h1]
    go_enter Tryz.func58, Tryz.ntmps58
    go_wp2
    go_ret
    exact ⟨rfl, rfl⟩
  · rw [if_neg h1]
    by_cases h2 : 8 < n
    · rw [if_pos h2]
      go_enter Tryz.func58, Tryz.ntmps58
      go_wp2
      go_ret
      exact ⟨rfl, rfl⟩
    · rw [if_neg h2]
      go_enter Tryz.func58, Tryz.ntmps58
      go_wp2
      go_ret
      exact ⟨rfl, rfl⟩
set_option maxRecDepth 100000 in
set_option maxHeartbeats 4000000 in
theorem mset_at (b : Nat) (gen slot tries M : Int) (hM : 1 ≤ M ∧ M ≤ 8) (htr : ∀ W, Calls Tryz.prog 58 #[.int .i64 tries] W fun e w' => e = .returned (.int .i64 M) ∧ W = w') (P : Ro → Fu → World → Prop) (hP : CallsAs 59 b gen slot P) (n : Nat) (s : Ro) (f : Fu) (w : World) (h : P s f w) (hd : Bd n s f) (hn : n + 8 < 100000) :
    Calls Tryz.prog 36 #[.pointer (some ⟨b, 0, none⟩), .agg #[.int .i64 slot, .int .i64 gen], .int .i64 tries] w fun e w' => ∃ j, SetJ gen slot s f M j ∧ e = .returned (.tuple #[.int .i64 (last gen slot s f j), .int .i64 (j : Int)]) ∧ P (st gen slot s f j).1 (st gen slot s f j).2 w' := by
  have HC : Hid (∀ i, i ≤ 8 → ∀ W, P (st gen slot s f i).1 (st gen slot s f i).2 W → Calls Tryz.prog 59 #[.pointer (some ⟨b, 0, none⟩), .int .i64 gen, .int .i64 slot] W fun e w' => e = .returned (.int .i64 (last gen slot s f (i + 1))) ∧ P (st gen slot s f (i + 1)).1 (st gen slot s f (i + 1)).2 w' ∧ Kept33 W w') := Lib.hid (fun i hi W hw => hP.call _ _ (n + i) W hw (bd_st hd i) (by omega))
  have HP := Lib.hid hP
  have HH := Lib.hid h
  have HTR := Lib.hid htr
  have HM := Lib.hid hM
  clear hP h hd htr hM
  go_enter Tryz.func36, Tryz.ntmps36
  go_upto_region 1 with (fail)
  obtain ⟨C, hC⟩ : ∃ X, X = w.heap.size := ⟨_, rfl⟩
  rw [← hC]
  refine name_w (fun W => W.heap[C]? = some (.cells #[.int .i64 slot, .int .i64 gen] 55 (0, 0)) ∧ P s f W) ?_ ?_
  · rw [hC]
    exact ⟨heap_alloc_new w _, HP.out.keep s f _ _ HH.out ((Below.refl w.heap.size w).alloc (Nat.le_refl _) _)⟩
  clear hC HH
  rintro w1 ⟨hc, h1⟩
  have H1 := Lib.hid h1
  have R1 := Lib.hid hc
  clear h1 hc
  go_wp2
  go_loopg [8, 9] 8 (fun gg tv cv wr => ∃ j : Nat, Hid (gg = 8 - j) ∧ Hid ((j : Int) ≤ M) ∧ tv = .int .i64 (last gen slot s f j) ∧ cv = .int .i64 (j : Int) ∧ Hid (∀ i, i < j → last gen slot s f i = 10) ∧ Hid (P (st gen slot s f j).1 (st gen slot s f j).2 wr) ∧ Hid (wr.heap[C]? = some (.cells #[.int .i64 slot, .int .i64 gen] 55 (0, 0))))
  case atStart => exact ⟨0, Lib.hid rfl, Lib.hid (by have := HM.out; omega), rfl, rfl, Lib.hid (fun i hi => by omega), H1, R1⟩
  case round =>
    obtain ⟨j, HG, HLE, rfl, rfl, HAH, HPj, HR⟩ := hrel
    clear H1 R1
    obtain ⟨tt, htt⟩ : ∃ x, x = last gen slot s f j := ⟨_, rfl⟩
    rw [← htt]
    have HT := Lib.hid htt
    clear htt
    by_cases h10 : tt = 10
    case neg =>
      have e1 : (tt == 10) = false := by simpa using h10
      have HN := Lib.hid h10
      clear h10
      go_wp2
      go_ret2
      exact ⟨j, ⟨Nat.pos_of_ne_zero (fun e => HN.out (by rw [HT.out, e]; rfl)), HLE.out, HAH.out, .inl (by rw [← HT.out]; exact HN.out)⟩, by rw [← HT.out]; rfl, HPj.out⟩
    subst h10
    by_cases hl : (j : Int) < M
    case neg =>
      have e2 : decide ((j : Int) < M) = false := decide_eq_false hl
      have HL := Lib.hid hl
      clear hl
      go_wp2_with (first | (go_at_call 58; refine (HTR.out _).mono ?_; rintro e w' ⟨rfl, rfl⟩))
      go_ret2
      exact ⟨j, ⟨by have := HL.out; have := HM.out; omega, HLE.out, HAH.out, .inr (by have := HLE.out; have := HL.out; omega)⟩, by rw [← HT.out]; rfl, HPj.out⟩
    have e2 : decide ((j : Int) < M) = true := decide_eq_true hl
    have HL := Lib.hid hl
    have H8 : Hid (j < 8) := Lib.hid (by have := HM.out; omega)
    have hj8 : j ≤ 8 := by have := H8.out; omega
    clear hl
    have c0 : wr.cell? ⟨C, 0, none⟩ = some (.int .i64 slot) := by rw [cell_of_row wr C 0 _ _ _ HR.out]; rfl
    have c1 : wr.cell? ⟨C, 1, none⟩ = some (.int .i64 gen) := by rw [cell_of_row wr C 1 _ _ _ HR.out]; rfl
    go_wp2_with (first | (go_at_call 58; refine (HTR.out _).mono ?_; rintro e w' ⟨rfl, rfl⟩))
    refine (HC.out j hj8 wr HPj.out).mono ?_
    rintro e w3 ⟨rfl, h3, hk⟩
    have H3 := Lib.hid h3
    have R3 := Lib.hid (hk _ _ HR.out)
    clear h3 hk c0 c1 e2 HPj HR
    go_wp2
    go_roundg (8 - (j + 1))
    case measure => have := HG.out; have := H8.out; omega
    case rel => exact ⟨j + 1, Lib.hid rfl, Lib.hid (by have := HL.out; omega), rfl, by go_num, Lib.hid (fun i hi => by
      rcases Nat.lt_succ_iff_lt_or_eq.1 hi with h | h
      · exact HAH.out i h
      · rw [h]; exact HT.out.symm), H3, R3⟩
theorem mset_any (b : Nat) (gen slot tries : Int) (P : Ro → Fu → World → Prop) (hP : CallsAs 59 b gen slot P) (n : Nat) (s : Ro) (f : Fu) (w : World) (h : P s f w) (hd : Bd n s f) (hn : n + 8 < 100000) :
    Calls Tryz.prog 36 #[.pointer (some ⟨b, 0, none⟩), .agg #[.int .i64 slot, .int .i64 gen], .int .i64 tries] w fun e w' => ∃ j, SetJ gen slot s f (triesC tries) j ∧ e = .returned (.tuple #[.int .i64 (last gen slot s f j), .int .i64 (j : Int)]) ∧ P (st gen slot s f j).1 (st gen slot s f j).2 w' :=
  mset_at b gen slot tries _ (triesC_in tries) (tries_any tries) P hP n s f w h hd hn
end Go.Proofs.YtchaeidmjoelnaaGreat
namespace Go.Proofs.YtchaeidmjoelnaaGreat
open Go.RowKit

theorem pk_calls (B b g : Nat) (gen slot : Int) (w : World) : CallsAs 85 b gen slot (fun s f W => Pk W B b g s f ∧ TurnR B w W) where
  keep := fun s f W W' ⟨h, ht⟩ hb => ⟨h.under hb, ht.trans (.of_below hb h.le)⟩
  call := fun s f n W ⟨h, ht⟩ hd hn => (pk_call B b g s f gen slot W h (hd.fine (by omega)) (hd.wr (by omega))).mono fun e w' ⟨he, hp, hk⟩ => ⟨he, ⟨hp, ht.trans hk⟩, fun k cur hc => hk.kind k cur 55 (by decide) (by decide) (by decide) hc⟩
theorem pk_set (B b g n : Nat) (s : Ro) (f : Fu) (gen slot tries : Int) (w : World) (h : Pk w B b g s f) (hd : Bd n s f) (hn : n + 8 < 100000) :
    Calls Tryz.prog 70 #[.pointer (some ⟨b, 0, none⟩), .agg #[.int .i64 slot, .int .i64 gen], .int .i64 tries] w fun e w' => ∃ j, SetJ gen slot s f (triesC tries) j ∧ e = .returned (.tuple #[.int .i64 (last gen slot s f j), .int .i64 (j : Int)]) ∧ Pk w' B b g (st gen slot s f j).1 (st gen slot s f j).2 ∧ TurnR B w w' :=
  set_any b gen slot tries _ (pk_calls B b g gen slot w) n s f w ⟨h, TurnR.refl _ _⟩ hd hn
/-- Where j is known. -/
theorem pk_set_at (B b g n : Nat) (s s' : Ro) (f f' : Fu) (gen slot tries t : Int) (j : Nat) (w : World) (h : Pk w B b g s f) (hd : Bd n s f) (hn : n + 8 < 100000) (hj : SetJ gen slot s f (triesC tries) j) (ht : last gen slot s f j = t) (hs : st gen slot s f j = (s', f')) :
    Calls Tryz.prog 70 #[.pointer (some ⟨b, 0, none⟩), .agg #[.int .i64 slot, .int .i64 gen], .int .i64 tries] w fun e w' => e = .returned (.tuple #[.int .i64 t, .int .i64 (j : Int)]) ∧ Pk w' B b g s' f' ∧ TurnR B w w' :=
  (pk_set B b g n s f gen slot tries w h hd hn).mono fun e w' ⟨i, hi, he, hp, hk⟩ => by
    obtain rfl := hi.uniq hj
    rw [ht] at he
    rw [hs] at hp
    exact ⟨he, hp, hk⟩
end Go.Proofs.YtchaeidmjoelnaaGreat
