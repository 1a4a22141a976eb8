/-
  package client's Set, and the document's, over any predicate that a call turns as the document says.
  Set of a router with its fuse (Pk).
  A thing that was there before (Hold): what is left of it behind a world w, and rows of the function's own beside it. The router with its fuse as such a thing (RoO).
-/
import Derived.Test.YtchaeidmjoelnaaCliA
import Derived.Test.YtchaeidmjoelnaaMdO
namespace Go.Proofs.Ytchaeidmjoelnaa
open Go.RowKit

/-- Every block of a route is as it was. -/
def Kept33 (w w' : World) : Prop := ∀ (k : Nat) (cur : Array Value), w.heap[k]? = some (.cells cur 40 (0, 0)) → w'.heap[k]? = some (.cells cur 40 (0, 0))
/-- Calls of function fn, of the thing at block b, turn P as the document says. -/
structure CallsAs (fn : Nat) (b : Nat) (gen slot : Int) (P : Ro → Fu → World → Prop) : Prop where
  keep : ∀ s f W W', P s f W → Below W.heap.size W W' → P s f W'
  call : ∀ s f n W, P s f W → Bd n s f → n < 100000 → Calls Try.prog fn #[.pointer (some ⟨b, 0, none⟩), .int .i64 gen, .int .i64 slot] W fun e w' => e = .returned (.int .i64 (toldC s f gen slot)) ∧ P (leftC s f gen slot) (fuseC f gen slot) w' ∧ Kept33 W w'
set_option maxRecDepth 100000 in
set_option maxHeartbeats 4000000 in
theorem set_low (b : Nat) (gen slot tries : Int) (P : Ro → Fu → World → Prop) (hP : CallsAs 62 b gen slot P) (n : Nat) (s : Ro) (f : Fu) (w : World) (h : P s f w) (hd : Bd n s f) (hn : n + 8 < 100000) (ht : tries < 1) :
    Calls Try.prog 50 #[.pointer (some ⟨b, 0, none⟩), .agg #[.int .i64 slot, .int .i64 gen], .int .i64 tries] w fun e w' => ∃ j, SetJ gen slot s f 1 j ∧ e = .returned (.tuple #[.int .i64 (last gen slot s f j), .int .i64 (j : Int)]) ∧ P (st gen slot s f j).1 (st gen slot s f j).2 w' := by
  have HC : Hid (∀ i, i ≤ 8 → ∀ W, P (st gen slot s f i).1 (st gen slot s f i).2 W → Calls Try.prog 62 #[.pointer (some ⟨b, 0, none⟩), .int .i64 gen, .int .i64 slot] W fun e w' => e = .returned (.int .i64 (last gen slot s f (i + 1))) ∧ P (st gen slot s f (i + 1)).1 (st gen slot s f (i + 1)).2 w' ∧ Kept33 W w') := Lib.hid (fun i hi W hw => hP.call _ _ (n + i) W hw (bd_st hd i) (by omega))
  have HP := Lib.hid hP
  have HH := Lib.hid h
  clear hP h hd
  go_enter Try.func50, Try.ntmps50
  go_upto_region 2 with (fail)
  obtain ⟨C, hC⟩ : ∃ X, X = w.heap.size := ⟨_, rfl⟩
  rw [← hC]
  refine name_w (fun W => W.heap[C]? = some (.cells #[.int .i64 slot, .int .i64 gen] 40 (0, 0)) ∧ P s f W) ?_ ?_
  · rw [hC]
    exact ⟨heap_alloc_new w _, HP.out.keep s f _ _ HH.out ((Below.refl w.heap.size w).alloc (Nat.le_refl _) _)⟩
  clear hC HH
  rintro w1 ⟨hc, h1⟩
  have c0 : w1.cell? ⟨C, 0, none⟩ = some (.int .i64 slot) := by rw [cell_of_row w1 C 0 _ _ _ hc]; rfl
  have c1 : w1.cell? ⟨C, 1, none⟩ = some (.int .i64 gen) := by rw [cell_of_row w1 C 1 _ _ _ hc]; rfl
  have H1 := Lib.hid h1
  have R1 := Lib.hid hc
  clear h1 hc
  go_wp2_with fail
  refine (HC.out 0 (by omega) w1 H1.out).mono ?_
  rintro e w2 ⟨rfl, h2, hk⟩
  have H2 := Lib.hid h2
  have R2 := Lib.hid (hk _ _ R1.out)
  clear h2 hk R1 H1 c0 c1
  go_wp2
  go_loopg [9, 10] 7 (fun gg tv cv wr => ∃ j : Nat, Hid (gg = 8 - j) ∧ 1 ≤ j ∧ Hid ((j : Int) ≤ 1) ∧ tv = .int .i64 (last gen slot s f j) ∧ cv = .int .i64 (j : Int) ∧ Hid (∀ i, i < j → last gen slot s f i = 10) ∧ Hid (P (st gen slot s f j).1 (st gen slot s f j).2 wr) ∧ Hid (wr.heap[C]? = some (.cells #[.int .i64 slot, .int .i64 gen] 40 (0, 0))))
  case atStart => exact ⟨1, Lib.hid rfl, Nat.le_refl _, Lib.hid (by omega), rfl, rfl, Lib.hid (fun i hi => by rw [Nat.lt_one_iff.1 hi]; rfl), H2, R2⟩
  case round =>
    obtain ⟨j, HG, hj1, HLE, rfl, rfl, HAH, HPj, HR⟩ := hrel
    clear H2 R2
    obtain ⟨tt, htt⟩ : ∃ x, x = last gen slot s f j := ⟨_, rfl⟩
    rw [← htt]
    have HT := Lib.hid htt
    clear htt
    by_cases h10 : tt = 10
    case neg =>
      have e1 : (tt == 10) = false := by simpa using h10
      have HN := Lib.hid h10
      clear h10
      go_wp2
      go_ret2
      exact ⟨j, ⟨hj1, HLE.out, HAH.out, .inl (by rw [← HT.out]; exact HN.out)⟩, by rw [← HT.out]; rfl, HPj.out⟩
    subst h10
    by_cases hl : (j : Int) < 1
    case neg =>
      have e2 : decide ((j : Int) < 1) = false := decide_eq_false hl
      have e3 : decide (j < 1) = false := by simp at hl ⊢; omega
      have HL := Lib.hid hl
      clear hl
      go_wp2
      go_ret2
      exact ⟨j, ⟨hj1, HLE.out, HAH.out, .inr (by have := HLE.out; have := HL.out; omega)⟩, by rw [← HT.out]; rfl, HPj.out⟩
    have e2 : decide ((j : Int) < 1) = true := decide_eq_true hl
    have e3 : decide (j < 1) = true := by simp at hl ⊢; omega
    have HL := Lib.hid hl
    have H8 : Hid (j < 8) := Lib.hid (by omega)
    have hj8 : j ≤ 8 := by omega
    clear hl
    have c0 : wr.cell? ⟨C, 0, none⟩ = some (.int .i64 slot) := by rw [cell_of_row wr C 0 _ _ _ HR.out]; rfl
    have c1 : wr.cell? ⟨C, 1, none⟩ = some (.int .i64 gen) := by rw [cell_of_row wr C 1 _ _ _ HR.out]; rfl
    go_wp2_with fail
    refine (HC.out j hj8 wr HPj.out).mono ?_
    rintro e w3 ⟨rfl, h3, hk⟩
    have H3 := Lib.hid h3
    have R3 := Lib.hid (hk _ _ HR.out)
    clear h3 hk c0 c1 e2 e3 HPj HR
    go_wp2
    go_roundg (8 - (j + 1))
    case measure => have := HG.out; have := H8.out; omega
    case rel => exact ⟨j + 1, Lib.hid rfl, by omega, Lib.hid (by have := HL.out; omega), rfl, by go_num, Lib.hid (fun i hi => by
      rcases Nat.lt_succ_iff_lt_or_eq.1 hi with h | h
      · exact HAH.out i h
      · rw [h]; exact HT.out.symm), H3, R3⟩
set_option maxRecDepth 100000 in
set_option maxHeartbeats 4000000 in
theorem set_mid (b : Nat) (gen slot tries : Int) (P : Ro → Fu → World → Prop) (hP : CallsAs 62 b gen slot P) (n : Nat) (s : Ro) (f : Fu) (w : World) (h : P s f w) (hd : Bd n s f) (hn : n + 8 < 100000) (ht : 1 ≤ tries) (ht8 : tries ≤ 8) :
    Calls Try.prog 50 #[.pointer (some ⟨b, 0, none⟩), .agg #[.int .i64 slot, .int .i64 gen], .int .i64 tries] w fun e w' => ∃ j, SetJ gen slot s f tries j ∧ e = .returned (.tuple #[.int .i64 (last gen slot s f j), .int .i64 (j : Int)]) ∧ P (st gen slot s f j).1 (st gen slot s f j).2 w' := by
  have HC : Hid (∀ i, i ≤ 8 → ∀ W, P (st gen slot s f i).1 (st gen slot s f i).2 W → Calls Try.prog 62 #[.pointer (some ⟨b, 0, none⟩), .int .i64 gen, .int .i64 slot] W fun e w' => e = .returned (.int .i64 (last gen slot s f (i + 1))) ∧ P (st gen slot s f (i + 1)).1 (st gen slot s f (i + 1)).2 w' ∧ Kept33 W w') := Lib.hid (fun i hi W hw => hP.call _ _ (n + i) W hw (bd_st hd i) (by omega))
  have HP := Lib.hid hP
  have HH := Lib.hid h
  clear hP h hd
  go_enter Try.func50, Try.ntmps50
  go_upto_region 2 with (fail)
  obtain ⟨C, hC⟩ : ∃ X, X = w.heap.size := ⟨_, rfl⟩
  rw [← hC]
  refine name_w (fun W => W.heap[C]? = some (.cells #[.int .i64 slot, .int .i64 gen] 40 (0, 0)) ∧ P s f W) ?_ ?_
  · rw [hC]
    exact ⟨heap_alloc_new w _, HP.out.keep s f _ _ HH.out ((Below.refl w.heap.size w).alloc (Nat.le_refl _) _)⟩
  clear hC HH
  rintro w1 ⟨hc, h1⟩
  have c0 : w1.cell? ⟨C, 0, none⟩ = some (.int .i64 slot) := by rw [cell_of_row w1 C 0 _ _ _ hc]; rfl
  have c1 : w1.cell? ⟨C, 1, none⟩ = some (.int .i64 gen) := by rw [cell_of_row w1 C 1 _ _ _ hc]; rfl
  have H1 := Lib.hid h1
  have R1 := Lib.hid hc
  clear h1 hc
  go_wp2_with fail
  refine (HC.out 0 (by omega) w1 H1.out).mono ?_
  rintro e w2 ⟨rfl, h2, hk⟩
  have H2 := Lib.hid h2
  have R2 := Lib.hid (hk _ _ R1.out)
  clear h2 hk R1 H1 c0 c1
  go_wp2
  go_loopg [9, 10] 7 (fun gg tv cv wr => ∃ j : Nat, Hid (gg = 8 - j) ∧ 1 ≤ j ∧ Hid ((j : Int) ≤ tries) ∧ tv = .int .i64 (last gen slot s f j) ∧ cv = .int .i64 (j : Int) ∧ Hid (∀ i, i < j → last gen slot s f i = 10) ∧ Hid (P (st gen slot s f j).1 (st gen slot s f j).2 wr) ∧ Hid (wr.heap[C]? = some (.cells #[.int .i64 slot, .int .i64 gen] 40 (0, 0))))
  case atStart => exact ⟨1, Lib.hid rfl, Nat.le_refl _, Lib.hid (by omega), rfl, rfl, Lib.hid (fun i hi => by rw [Nat.lt_one_iff.1 hi]; rfl), H2, R2⟩
  case round =>
    obtain ⟨j, HG, hj1, HLE, rfl, rfl, HAH, HPj, HR⟩ := hrel
    clear H2 R2
    obtain ⟨tt, htt⟩ : ∃ x, x = last gen slot s f j := ⟨_, rfl⟩
    rw [← htt]
    have HT := Lib.hid htt
    clear htt
    by_cases h10 : tt = 10
    case neg =>
      have e1 : (tt == 10) = false := by simpa using h10
      have HN := Lib.hid h10
      clear h10
      go_wp2
      go_ret2
      exact ⟨j, ⟨hj1, HLE.out, HAH.out, .inl (by rw [← HT.out]; exact HN.out)⟩, by rw [← HT.out]; rfl, HPj.out⟩
    subst h10
    by_cases hl : (j : Int) < tries
    case neg =>
      have e2 : decide ((j : Int) < tries) = false := decide_eq_false hl

      have HL := Lib.hid hl
      clear hl
      go_wp2
      go_ret2
      exact ⟨j, ⟨hj1, HLE.out, HAH.out, .inr (by have := HLE.out; have := HL.out; omega)⟩, by rw [← HT.out]; rfl, HPj.out⟩
    have e2 : decide ((j : Int) < tries) = true := decide_eq_true hl

    have HL := Lib.hid hl
    have H8 : Hid (j < 8) := Lib.hid (by omega)
    have hj8 : j ≤ 8 := by omega
    clear hl
    have c0 : wr.cell? ⟨C, 0, none⟩ = some (.int .i64 slot) := by rw [cell_of_row wr C 0 _ _ _ HR.out]; rfl
    have c1 : wr.cell? ⟨C, 1, none⟩ = some (.int .i64 gen) := by rw [cell_of_row wr C 1 _ _ _ HR.out]; rfl
    go_wp2_with fail
    refine (HC.out j hj8 wr HPj.out).mono ?_
    rintro e w3 ⟨rfl, h3, hk⟩
    have H3 := Lib.hid h3
    have R3 := Lib.hid (hk _ _ HR.out)
    clear h3 hk c0 c1 e2 HPj HR
    go_wp2
    go_roundg (8 - (j + 1))
    case measure => have := HG.out; have := H8.out; omega
    case rel => exact ⟨j + 1, Lib.hid rfl, by omega, Lib.hid (by have := HL.out; omega), rfl, by go_num, Lib.hid (fun i hi => by
      rcases Nat.lt_succ_iff_lt_or_eq.1 hi with h | h
      · exact HAH.out i h
      · rw [h]; exact HT.out.symm), H3, R3⟩
set_option maxRecDepth 100000 in
set_option maxHeartbeats 4000000 in
theorem set_high (b : Nat) (gen slot tries : Int) (P : Ro → Fu → World → Prop) (hP : CallsAs 62 b gen slot P) (n : Nat) (s : Ro) (f : Fu) (w : World) (h : P s f w) (hd : Bd n s f) (hn : n + 8 < 100000) (ht : 8 < tries) :
    Calls Try.prog 50 #[.pointer (some ⟨b, 0, none⟩), .agg #[.int .i64 slot, .int .i64 gen], .int .i64 tries] w fun e w' => ∃ j, SetJ gen slot s f 8 j ∧ e = .returned (.tuple #[.int .i64 (last gen slot s f j), .int .i64 (j : Int)]) ∧ P (st gen slot s f j).1 (st gen slot s f j).2 w' := by
  have HC : Hid (∀ i, i ≤ 8 → ∀ W, P (st gen slot s f i).1 (st gen slot s f i).2 W → Calls Try.prog 62 #[.pointer (some ⟨b, 0, none⟩), .int .i64 gen, .int .i64 slot] W fun e w' => e = .returned (.int .i64 (last gen slot s f (i + 1))) ∧ P (st gen slot s f (i + 1)).1 (st gen slot s f (i + 1)).2 w' ∧ Kept33 W w') := Lib.hid (fun i hi W hw => hP.call _ _ (n + i) W hw (bd_st hd i) (by omega))
  have HP := Lib.hid hP
  have HH := Lib.hid h
  clear hP h hd
  go_enter Try.func50, Try.ntmps50
  go_upto_region 2 with (fail)
  obtain ⟨C, hC⟩ : ∃ X, X = w.heap.size := ⟨_, rfl⟩
  rw [← hC]
  refine name_w (fun W => W.heap[C]? = some (.cells #[.int .i64 slot, .int .i64 gen] 40 (0, 0)) ∧ P s f W) ?_ ?_
  · rw [hC]
    exact ⟨heap_alloc_new w _, HP.out.keep s f _ _ HH.out ((Below.refl w.heap.size w).alloc (Nat.le_refl _) _)⟩
  clear hC HH
  rintro w1 ⟨hc, h1⟩
  have c0 : w1.cell? ⟨C, 0, none⟩ = some (.int .i64 slot) := by rw [cell_of_row w1 C 0 _ _ _ hc]; rfl
  have c1 : w1.cell? ⟨C, 1, none⟩ = some (.int .i64 gen) := by rw [cell_of_row w1 C 1 _ _ _ hc]; rfl
  have H1 := Lib.hid h1
  have R1 := Lib.hid hc
  clear h1 hc
  go_wp2_with fail
  refine (HC.out 0 (by omega) w1 H1.out).mono ?_
  rintro e w2 ⟨rfl, h2, hk⟩
  have H2 := Lib.hid h2
  have R2 := Lib.hid (hk _ _ R1.out)
  clear h2 hk R1 H1 c0 c1
  go_wp2
  go_loopg [9, 10] 7 (fun gg tv cv wr => ∃ j : Nat, Hid (gg = 8 - j) ∧ 1 ≤ j ∧ Hid ((j : Int) ≤ 8) ∧ tv = .int .i64 (last gen slot s f j) ∧ cv = .int .i64 (j : Int) ∧ Hid (∀ i, i < j → last gen slot s f i = 10) ∧ Hid (P (st gen slot s f j).1 (st gen slot s f j).2 wr) ∧ Hid (wr.heap[C]? = some (.cells #[.int .i64 slot, .int .i64 gen] 40 (0, 0))))
  case atStart => exact ⟨1, Lib.hid rfl, Nat.le_refl _, Lib.hid (by omega), rfl, rfl, Lib.hid (fun i hi => by rw [Nat.lt_one_iff.1 hi]; rfl), H2, R2⟩
  case round =>
    obtain ⟨j, HG, hj1, HLE, rfl, rfl, HAH, HPj, HR⟩ := hrel
    clear H2 R2
    obtain ⟨tt, htt⟩ : ∃ x, x = last gen slot s f j := ⟨_, rfl⟩
    rw [← htt]
    have HT := Lib.hid htt
    clear htt
    by_cases h10 : tt = 10
    case neg =>
      have e1 : (tt == 10) = false := by simpa using h10
      have HN := Lib.hid h10
      clear h10
      go_wp2
      go_ret2
      exact ⟨j, ⟨hj1, HLE.out, HAH.out, .inl (by rw [← HT.out]; exact HN.out)⟩, by rw [← HT.out]; rfl, HPj.out⟩
    subst h10
    by_cases hl : (j : Int) < 8
    case neg =>
      have e2 : decide ((j : Int) < 8) = false := decide_eq_false hl
      have e3 : decide (j < 8) = false := by simp at hl ⊢; omega
      have HL := Lib.hid hl
      clear hl
      go_wp2
      go_ret2
      exact ⟨j, ⟨hj1, HLE.out, HAH.out, .inr (by have := HLE.out; have := HL.out; omega)⟩, by rw [← HT.out]; rfl, HPj.out⟩
    have e2 : decide ((j : Int) < 8) = true := decide_eq_true hl
    have e3 : decide (j < 8) = true := by simp at hl ⊢; omega
    have HL := Lib.hid hl
    have H8 : Hid (j < 8) := Lib.hid (by omega)
    have hj8 : j ≤ 8 := by omega
    clear hl
    have c0 : wr.cell? ⟨C, 0, none⟩ = some (.int .i64 slot) := by rw [cell_of_row wr C 0 _ _ _ HR.out]; rfl
    have c1 : wr.cell? ⟨C, 1, none⟩ = some (.int .i64 gen) := by rw [cell_of_row wr C 1 _ _ _ HR.out]; rfl
    go_wp2_with fail
    refine (HC.out j hj8 wr HPj.out).mono ?_
    rintro e w3 ⟨rfl, h3, hk⟩
    have H3 := Lib.hid h3
    have R3 := Lib.hid (hk _ _ HR.out)
    clear h3 hk c0 c1 e2 e3 HPj HR
    go_wp2
    go_roundg (8 - (j + 1))
    case measure => have := HG.out; have := H8.out; omega
    case rel => exact ⟨j + 1, Lib.hid rfl, by omega, Lib.hid (by have := HL.out; omega), rfl, by go_num, Lib.hid (fun i hi => by
      rcases Nat.lt_succ_iff_lt_or_eq.1 hi with h | h
      · exact HAH.out i h
      · rw [h]; exact HT.out.symm), H3, R3⟩
theorem set_any (b : Nat) (gen slot tries : Int) (P : Ro → Fu → World → Prop) (hP : CallsAs 62 b gen slot P) (n : Nat) (s : Ro) (f : Fu) (w : World) (h : P s f w) (hd : Bd n s f) (hn : n + 8 < 100000) :
    Calls Try.prog 50 #[.pointer (some ⟨b, 0, none⟩), .agg #[.int .i64 slot, .int .i64 gen], .int .i64 tries] w fun e w' => ∃ j, SetJ gen slot s f (triesC tries) j ∧ e = .returned (.tuple #[.int .i64 (last gen slot s f j), .int .i64 (j : Int)]) ∧ P (st gen slot s f j).1 (st gen slot s f j).2 w' := by
  unfold triesC
  by_cases h1 : tries < 1
  · rw [if_pos h1]; exact set_low b gen slot tries P hP n s f w h hd hn h1
  · rw [if_neg h1]
    by_cases h2 : 8 < tries
    · rw [if_pos h2]; exact set_high b gen slot tries P hP n s f w h hd hn h2
    · rw [if_neg h2]; exact set_mid b gen slot tries P hP n s f w h hd hn (by omega) (by omega)
end Go.Proofs.Ytchaeidmjoelnaa
namespace Go.Proofs.Ytchaeidmjoelnaa
open Go.RowKit

theorem pk_calls (B b g : Nat) (gen slot : Int) (w : World) : CallsAs 62 b gen slot (fun s f W => Pk W B b g s f ∧ TurnR B w W) where
  keep := fun s f W W' ⟨h, ht⟩ hb => ⟨h.under hb, ht.trans (.of_below hb h.le)⟩
  call := fun s f n W ⟨h, ht⟩ hd hn => (pk_call B b g s f gen slot W h (hd.fine (by omega)) (hd.wr (by omega))).mono fun e w' ⟨he, hp, hk⟩ => ⟨he, ⟨hp, ht.trans hk⟩, fun k cur hc => hk.kind k cur 40 (by decide) (by decide) (by decide) hc⟩
theorem pk_set (B b g n : Nat) (s : Ro) (f : Fu) (gen slot tries : Int) (w : World) (h : Pk w B b g s f) (hd : Bd n s f) (hn : n + 8 < 100000) :
    Calls Try.prog 50 #[.pointer (some ⟨b, 0, none⟩), .agg #[.int .i64 slot, .int .i64 gen], .int .i64 tries] w fun e w' => ∃ j, SetJ gen slot s f (triesC tries) j ∧ e = .returned (.tuple #[.int .i64 (last gen slot s f j), .int .i64 (j : Int)]) ∧ Pk w' B b g (st gen slot s f j).1 (st gen slot s f j).2 ∧ TurnR B w w' :=
  set_any b gen slot tries _ (pk_calls B b g gen slot w) n s f w ⟨h, TurnR.refl _ _⟩ hd hn
/-- Where j is known. -/
theorem pk_set_at (B b g n : Nat) (s s' : Ro) (f f' : Fu) (gen slot tries t : Int) (j : Nat) (w : World) (h : Pk w B b g s f) (hd : Bd n s f) (hn : n + 8 < 100000) (hj : SetJ gen slot s f (triesC tries) j) (ht : last gen slot s f j = t) (hs : st gen slot s f j = (s', f')) :
    Calls Try.prog 50 #[.pointer (some ⟨b, 0, none⟩), .agg #[.int .i64 slot, .int .i64 gen], .int .i64 tries] w fun e w' => e = .returned (.tuple #[.int .i64 t, .int .i64 (j : Int)]) ∧ Pk w' B b g s' f' ∧ TurnR B w w' :=
  (pk_set B b g n s f gen slot tries w h hd hn).mono fun e w' ⟨i, hi, he, hp, hk⟩ => by
    obtain rfl := hi.uniq hj
    rw [ht] at he
    rw [hs] at hp
    exact ⟨he, hp, hk⟩
end Go.Proofs.Ytchaeidmjoelnaa
namespace Go.Proofs.Ytchaeidmjoelnaa
open Go.RowKit

/-- A thing whose blocks were O0 in the world w, in the world W; rows of the function's own. -/
structure Hold {α : Type} (F : ObIn α) (O0 : Nat → Prop) (w W : World) (L : List Row) (b : Nat) (a : α) : Prop where
  ex : ∃ O : Nat → Prop, F O W b a ∧ (∀ j, O j → O0 j ∨ w.heap.size ≤ j) ∧ ∀ r ∈ L, ¬ O r.1
  but : ButO O0 w W
  rows : ∀ r ∈ L, Rw W r.1 r.2.1 r.2.2
  ge : ∀ r ∈ L, w.heap.size ≤ r.1
  nd : (L.map (·.1)).Nodup
theorem ButO.then {O : Nat → Prop} {a w w' : World} (h : ButO O a w) (hb : Below w.heap.size w w') : ButO O a w' := h.trans (ButO.of_below (O := fun _ => False) hb) (fun _ h => h.elim)
section
variable {α : Type} {F : ObIn α} {O0 : Nat → Prop} {w W W' : World} {L : List Row} {b : Nat} {a a' : α}
theorem Hold.start (h : F O0 w b a) : Hold F O0 w w [] b a := ⟨⟨O0, h, fun _ h => .inl h, fun _ h => by cases h⟩, ButO.refl _ _, fun _ h => (by cases h), fun _ h => (by cases h), List.nodup_nil⟩
theorem Hold.fin (h : Hold F O0 w W L b a) : TurnO F O0 w W b a := by
  obtain ⟨O, h1, h2, _⟩ := h.ex
  exact ⟨O, h1, h2, h.but⟩
theorem Hold.keep (hF : KeepsO F) (h : Hold F O0 w W L b a) (hb : Below W.heap.size W W') : Hold F O0 w W' L b a := by
  obtain ⟨O, h1, h2, h3⟩ := h.ex
  exact ⟨⟨O, hF.keep h1 (fun j hj => hb.block j (hF.lt h1 j hj)), h2, h3⟩, h.but.then hb, fun r hr => (h.rows r hr).under hb (h.rows r hr).lt, h.ge, h.nd⟩
theorem Hold.drew (hF : KeepsO F) (h : Hold F O0 w W L b a) : Hold F O0 w W.drew L b a := h.keep hF (below_one W)
theorem Hold.alloc (hF : KeepsO F) (h : Hold F O0 w W L b a) (cs : Array Value) (t : TypeId) : Hold F O0 w (W.alloc (.cells cs t)) ((W.heap.size, cs, t) :: L) b a := by
  have hb : Below W.heap.size W (W.alloc (.cells cs t)) := (Below.refl _ _).alloc (Nat.le_refl _) _
  have hk := h.keep hF hb
  refine ⟨?_, hk.but, fun r hr => ?_, fun r hr => ?_, ?_⟩
  · obtain ⟨O, h1, h2, h3⟩ := h.ex
    refine ⟨O, hF.keep h1 (fun j hj => hb.block j (hF.lt h1 j hj)), h2, fun r hr => ?_⟩
    rcases List.mem_cons.1 hr with e | e
    · rw [e]; exact fun ho => by have := hF.lt h1 _ ho; exact absurd this (Nat.lt_irrefl _)
    · exact h3 r e
  · rcases List.mem_cons.1 hr with e | e
    · rw [e]; exact Rw.new W cs t
    · exact hk.rows r e
  · rcases List.mem_cons.1 hr with e | e
    · rw [e]; exact h.but.size
    · exact h.ge r e
  · rw [List.map_cons, List.nodup_cons]
    refine ⟨fun hm => ?_, h.nd⟩
    obtain ⟨r, hr, e⟩ := List.mem_map.1 hm
    have h4 := (h.rows r hr).lt
    rw [show r.1 = W.heap.size from e] at h4
    exact absurd h4 (Nat.lt_irrefl _)
theorem Hold.sub {L' : List Row} (h : Hold F O0 w W L b a) (hL : L'.Sublist L) : Hold F O0 w W L' b a := by
  obtain ⟨O, h1, h2, h3⟩ := h.ex
  exact ⟨⟨O, h1, h2, fun r hr => h3 r (hL.subset hr)⟩, h.but, fun r hr => h.rows r (hL.subset hr), fun r hr => h.ge r (hL.subset hr), h.nd.sublist (hL.map _)⟩
theorem Hold.tail {r : Row} (h : Hold F O0 w W (r :: L) b a) : Hold F O0 w W L b a := h.sub (List.sublist_cons_self _ _)
theorem Hold.nil (h : Hold F O0 w W L b a) : Hold F O0 w W [] b a := h.sub (List.nil_sublist _)
theorem Hold.row1 {A : Nat} {cs : Array Value} {t : TypeId} (h : Hold F O0 w W ((A, cs, t) :: L) b a) : Rw W A cs t := h.rows _ (List.mem_cons_self ..)
theorem Hold.row2 {A : Nat} {cs : Array Value} {t : TypeId} {x : Row} (h : Hold F O0 w W (x :: (A, cs, t) :: L) b a) : Rw W A cs t := h.tail.row1
theorem Hold.row3 {A : Nat} {cs : Array Value} {t : TypeId} {x y : Row} (h : Hold F O0 w W (x :: y :: (A, cs, t) :: L) b a) : Rw W A cs t := h.tail.row2
/-- The first row is written whole. -/
theorem Hold.setRow {A : Nat} {old : Array Value} {t : TypeId} (hF : KeepsO F) (h : Hold F O0 w W ((A, old, t) :: L) b a) (cs : Array Value) : Hold F O0 w (W.setRow A cs) ((A, cs, t) :: L) b a := by
  obtain ⟨O, h1, h2, h3⟩ := h.ex
  have hA := h.rows _ (List.mem_cons_self ..)
  have hg : w.heap.size ≤ A := h.ge _ (List.mem_cons_self ..)
  have hO : ¬ O A := h3 _ (List.mem_cons_self ..)
  have hn := h.nd
  simp only [List.map_cons, List.nodup_cons] at hn
  refine ⟨⟨O, hF.keep h1 (fun j hj => setRow_block W A j cs (fun e => hO (e ▸ hj))), h2, fun r hr => ?_⟩, ⟨h.but.os, h.but.tape, h.but.output, by rw [size_setRow]; exact h.but.size, fun j hj hn2 => (setRow_block W A j cs (by omega)).trans (h.but.block j hj hn2)⟩, fun r hr => ?_, fun r hr => ?_, ?_⟩
  · rcases List.mem_cons.1 hr with e | e
    · rw [e]; exact hO
    · exact h3 r (List.mem_cons_of_mem _ e)
  · rcases List.mem_cons.1 hr with e | e
    · rw [e]; exact hA.set cs
    · exact (setRow_block W A r.1 cs (fun e2 => hn.1 (List.mem_map.2 ⟨r, e, e2⟩))).trans (h.rows r (List.mem_cons_of_mem _ e))
  · rcases List.mem_cons.1 hr with e | e
    · rw [e]; exact hg
    · exact h.ge r (List.mem_cons_of_mem _ e)
  · simp only [List.map_cons, List.nodup_cons]; exact hn
/-- A step that turns it. -/
theorem Hold.step (h : Hold F O0 w W L b a) {F' : ObIn α} (hc : ∀ O, F O W b a → TurnO F' O W W' b a') : Hold F' O0 w W' L b a' := by
  obtain ⟨O, h1, h2, h3⟩ := h.ex
  obtain ⟨O', g1, g2, g3⟩ := hc O h1
  refine ⟨⟨O', g1, fun j hj => ?_, fun r hr ho => ?_⟩, ?_, fun r hr => (g3.block r.1 (h.rows r hr).lt (h3 r hr)).trans (h.rows r hr), h.ge, h.nd⟩
  · rcases g2 j hj with e | e
    · exact h2 j e
    · exact .inr (Nat.le_trans h.but.size e)
  · rcases g2 r.1 ho with e | e
    · exact h3 r hr e
    · have := (h.rows r hr).lt; omega
  · exact h.but.trans g3 h2
theorem Hold.turn (h : Hold F O0 w W L b a) {f : FuncId} {args : Array Value} {Pe : Ending → Prop} (hc : ∀ O, F O W b a → Calls Try.prog f args W fun e w' => Pe e ∧ TurnO F O W w' b a') : Calls Try.prog f args W fun e w' => Pe e ∧ Hold F O0 w w' L b a' := by
  obtain ⟨O, h1, h2, h3⟩ := h.ex
  refine (hc O h1).mono fun e w' ⟨he, O', g1, g2, g3⟩ => ⟨he, ⟨O', g1, fun j hj => ?_, fun r hr ho => ?_⟩, h.but.trans g3 h2, fun r hr => (g3.block r.1 (h.rows r hr).lt (h3 r hr)).trans (h.rows r hr), h.ge, h.nd⟩
  · rcases g2 j hj with e | e
    · exact h2 j e
    · exact .inr (Nat.le_trans h.but.size e)
  · rcases g2 r.1 ho with e | e
    · exact h3 r hr e
    · have := (h.rows r hr).lt; omega
theorem Hold.look (hF : KeepsO F) (h : Hold F O0 w W L b a) {f : FuncId} {args : Array Value} {Pe : Ending → Prop} (hc : ∀ O, F O W b a → Calls Try.prog f args W fun e w' => Pe e ∧ Below W.heap.size W w') : Calls Try.prog f args W fun e w' => Pe e ∧ Hold F O0 w w' L b a := by
  obtain ⟨O, h1, _⟩ := h.ex
  exact (hc O h1).mono fun e w' ⟨he, hb⟩ => ⟨he, h.keep hF hb⟩
theorem Hold.aside (hF : KeepsO F) (h : Hold F O0 w W L b a) {f : FuncId} {args : Array Value} {Pe : Ending → Prop} (hc : Calls Try.prog f args W fun e w' => Pe e ∧ Below W.heap.size W w') : Calls Try.prog f args W fun e w' => Pe e ∧ Hold F O0 w w' L b a :=
  hc.mono fun _ _ ⟨he, hb⟩ => ⟨he, h.keep hF hb⟩
end
/-! The router with its fuse. -/
def RoO : ObIn (Ro × Fu) := fun O W b x => ∃ g v, RoP W b g v x.1 ∧ Fz W g 87 x.2 ∧ O b ∧ O g ∧ (∀ k, v.ownBlock = some k → O k) ∧ ∀ j, O j → j < W.heap.size
theorem roo_keeps : KeepsO RoO where
  lt := fun ⟨_, _, _, _, _, _, _, h⟩ => h
  keep := fun {O W W' b a} ⟨g, v, h1, h2, h3, h4, h5, h6⟩ hk => ⟨g, v, h1.but (hk b h3) (fun k h => hk k (h5 k h)), (hk g h4).trans h2, h3, h4, h5, fun j hj => by
    rcases Nat.lt_or_ge j W'.heap.size with h | h
    · exact h
    · have h7 := hk j hj
      rw [Array.getElem?_eq_none h, Array.getElem?_eq_getElem (h6 j hj)] at h7
      cases h7⟩
section
variable {O : Nat → Prop} {W W' : World} {b g : Nat} {s s' : Ro} {f f' : Fu} {v v' : Value}
theorem roo_ne (h1 : RoP W b g v s) (h2 : Fz W g 87 f) : b ≠ g := fun e => by
  have h3 := h1.row
  unfold Fz at h2
  rw [e, h2] at h3
  simp at h3
theorem roo_turn (h3 : O b) (h4 : O g) (h5 : ∀ k, v.ownBlock = some k → O k) (h6 : ∀ j, O j → j < W.heap.size) (g1 : RoP W' b g v' s') (g2 : Fz W' g 87 f') (g3 : New W v v') (g4 : ButR b g v W W') : TurnO RoO O W W' b (s', f') :=
  ⟨more O W W', ⟨g, v', g1, g2, .inl h3, .inl h4, fun k hk => (g3 k hk).elim (fun e => .inl (h5 k e)) (fun e => .inr ⟨e, g1.own.lt k hk⟩), fun j hj => hj.elim (fun e => Nat.lt_of_lt_of_le (h6 j e) g4.size) And.right⟩, more_sub O W W', ⟨g4.os, g4.tape, g4.output, g4.size, fun j hj hn => g4.block j hj (fun e => hn (e ▸ h3)) (fun e => hn (e ▸ h4)) (fun e => hn (h5 j e))⟩⟩
theorem roo_script (l : Value) (xs : List Int) (h : RoO O W b (s, f)) (hl : IntsI W l xs) (hn : s.outs.length + xs.length ≤ 100000000) : Calls Try.prog 33 #[.pointer (some ⟨b, 0, none⟩), l] W fun e w' => e = .returned (.tuple #[]) ∧ TurnO RoO O W w' b ({ s with outs := s.outs ++ xs }, f) := by
  obtain ⟨g, v, h1, h2, h3, h4, h5, h6⟩ := h
  have hne := roo_ne h1 h2
  refine (pscript_any b g s l xs v W h1 hl hn).mono fun e w' ⟨he, ⟨v', hr', hnw⟩, hb'⟩ => ⟨he, roo_turn h3 h4 h5 h6 hr' ?_ hnw hb'.wide⟩
  exact (hb'.block g h2.lt (Ne.symm hne) (Ne.symm hne) (h1.ng h2 (by decide))).trans h2
theorem roo_cell (h : RoO O W b (s, f)) : Calls Try.prog 27 #[.pointer (some ⟨b, 0, none⟩)] W fun e w' => e = .returned (.agg #[.int .i64 s.slot, .int .i64 s.gen]) ∧ Below W.heap.size W w' := by
  obtain ⟨g, v, h1, _⟩ := h
  exact (pcell_any b g s v W h1).mono fun e w' ⟨he, hb, _⟩ => ⟨he, hb⟩
theorem roo_call (gen slot : Int) (h : RoO O W b (s, f)) (hf : Fine f) (hwr : 0 ≤ s.writes ∧ s.writes ≤ 1000000) : Calls Try.prog 62 #[.pointer (some ⟨b, 0, none⟩), .int .i64 gen, .int .i64 slot] W fun e w' => e = .returned (.int .i64 (toldC s f gen slot)) ∧ TurnO RoO O W w' b (leftC s f gen slot, fuseC f gen slot) ∧ Kept33 W w' := by
  obtain ⟨g, v, h1, h2, h3, h4, h5, h6⟩ := h
  have hne := roo_ne h1 h2
  refine (pcall_any b g s f gen slot v W h1 h2 hne hf hwr).mono fun e w' ⟨he, ⟨v', hr', hn⟩, hz', hb'⟩ => ⟨he, roo_turn h3 h4 h5 h6 hr' hz' hn (.of_but hb'), fun k cur hc => ?_⟩
  refine (hb'.block k (lt_of_block hc) (fun e => ?_) (fun e => ?_)).trans hc
  · rw [e, h1.row] at hc
    simp at hc
  · unfold Fz at h2
    rw [e, h2] at hc
    simp at hc
theorem roo_calls (O : Nat → Prop) (b : Nat) (gen slot : Int) (w : World) : CallsAs 62 b gen slot (fun s f W => TurnO RoO O w W b (s, f)) where
  keep := fun s f W W' ⟨O', h1, h2, h3⟩ hb => ⟨O', roo_keeps.keep h1 (fun j hj => hb.block j (roo_keeps.lt h1 j hj)), h2, h3.then hb⟩
  call := fun s f n W ⟨O', h1, h2, h3⟩ hd hn => (roo_call gen slot h1 (hd.fine (by omega)) (hd.wr (by omega))).mono fun e w' ⟨he, ⟨O2, g1, g2, g3⟩, hk⟩ => ⟨he, ⟨O2, g1, fun j hj => (g2 j hj).elim (h2 j) (fun e => .inr (Nat.le_trans h3.size e)), h3.trans g3 h2⟩, hk⟩
theorem TurnO.refl {α : Type} {F : ObIn α} {O : Nat → Prop} {W : World} {b : Nat} {a : α} (h : F O W b a) : TurnO F O W W b a := ⟨O, h, fun _ h => .inl h, ButO.refl _ _⟩
theorem roo_set (n : Nat) (gen slot tries : Int) (h : RoO O W b (s, f)) (hd : Bd n s f) (hn : n + 8 < 100000) :
    Calls Try.prog 50 #[.pointer (some ⟨b, 0, none⟩), .agg #[.int .i64 slot, .int .i64 gen], .int .i64 tries] W fun e w' => ∃ j, SetJ gen slot s f (triesC tries) j ∧ e = .returned (.tuple #[.int .i64 (last gen slot s f j), .int .i64 (j : Int)]) ∧ TurnO RoO O W w' b (st gen slot s f j) :=
  set_any b gen slot tries _ (roo_calls O b gen slot W) n s f W (TurnO.refl h) hd hn
end
end Go.Proofs.Ytchaeidmjoelnaa
