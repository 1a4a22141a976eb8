/-
  The document's own Set, over any predicate that a call turns as the document says.
-/
import Derived.Test.YtjalmfomeehpgaaCliB
namespace Go.Proofs.Ytjalmfomeehpgaa
open Go.RowKit

theorem tries_any (n : Int) (w : World) : Calls Try.prog 21 #[.int .i64 n] w fun e w' => e = .returned (.int .i64 (triesC n)) ∧ w = w' := by
  unfold triesC
  by_cases h1 : n < 1
  · rw [if_pos h1]
    go_enter Try.func21, Try.ntmps21
    go_wp2
    go_ret
    exact ⟨rfl, rfl⟩
  · rw [if_neg h1]
    by_cases h2 : 8 < n
    · rw [if_pos h2]
      go_enter Try.func21, Try.ntmps21
      go_wp2
      go_ret
      exact ⟨rfl, rfl⟩
    · rw [if_neg h2]
      go_enter Try.func21, Try.ntmps21
      go_wp2
      go_ret
      exact ⟨rfl, rfl⟩
set_option maxRecDepth 100000 in
set_option maxHeartbeats 4000000 in
theorem mset_at (b : Nat) (gen slot tries M : Int) (hM : 1 ≤ M ∧ M ≤ 8) (htr : ∀ W, Calls Try.prog 21 #[.int .i64 tries] W fun e w' => e = .returned (.int .i64 M) ∧ W = w') (P : Ro → Fu → World → Prop) (hP : CallsAs 24 b gen slot P) (n : Nat) (s : Ro) (f : Fu) (w : World) (h : P s f w) (hd : Bd n s f) (hn : n + 8 < 1000) :
    Calls Try.prog 11 #[.pointer (some ⟨b, 0, none⟩), .agg #[.int .i64 slot, .int .i64 gen], .int .i64 tries] w fun e w' => ∃ j, SetJ gen slot s f M j ∧ e = .returned (.tuple #[.int .i64 (last gen slot s f j), .int .i64 (j : Int)]) ∧ P (st gen slot s f j).1 (st gen slot s f j).2 w' := by
  have HC : Hid (∀ i, i ≤ 8 → ∀ W, P (st gen slot s f i).1 (st gen slot s f i).2 W → Calls Try.prog 24 #[.pointer (some ⟨b, 0, none⟩), .int .i64 gen, .int .i64 slot] W fun e w' => e = .returned (.int .i64 (last gen slot s f (i + 1))) ∧ P (st gen slot s f (i + 1)).1 (st gen slot s f (i + 1)).2 w' ∧ Kept33 W w') := Lib.hid (fun i hi W hw => hP.call _ _ (n + i) W hw (bd_st hd i) (by omega))
  have HP := Lib.hid hP
  have HH := Lib.hid h
  have HTR := Lib.hid htr
  have HM := Lib.hid hM
  clear hP h hd htr hM
  go_enter Try.func11, Try.ntmps11
  go_upto_region 1 with (fail)
  obtain ⟨C, hC⟩ : ∃ X, X = w.heap.size := ⟨_, rfl⟩
  rw [← hC]
  refine name_w (fun W => W.heap[C]? = some (.cells #[.int .i64 slot, .int .i64 gen] 33 (0, 0)) ∧ P s f W) ?_ ?_
  · rw [hC]
    exact ⟨heap_alloc_new w _, HP.out.keep s f _ _ HH.out ((Below.refl w.heap.size w).alloc (Nat.le_refl _) _)⟩
  clear hC HH
  rintro w1 ⟨hc, h1⟩
  have H1 := Lib.hid h1
  have R1 := Lib.hid hc
  clear h1 hc
  go_wp2
  go_loopg [8, 9] 8 (fun gg tv cv wr => ∃ j : Nat, Hid (gg = 8 - j) ∧ Hid ((j : Int) ≤ M) ∧ tv = .int .i64 (last gen slot s f j) ∧ cv = .int .i64 (j : Int) ∧ Hid (∀ i, i < j → last gen slot s f i = 10) ∧ Hid (P (st gen slot s f j).1 (st gen slot s f j).2 wr) ∧ Hid (wr.heap[C]? = some (.cells #[.int .i64 slot, .int .i64 gen] 33 (0, 0))))
  case atStart => exact ⟨0, Lib.hid rfl, Lib.hid (by have := HM.out; omega), rfl, rfl, Lib.hid (fun i hi => by omega), H1, R1⟩
  case round =>
    obtain ⟨j, HG, HLE, rfl, rfl, HAH, HPj, HR⟩ := hrel
    clear H1 R1
    obtain ⟨tt, htt⟩ : ∃ x, x = last gen slot s f j := ⟨_, rfl⟩
    rw [← htt]
    have HT := Lib.hid htt
    clear htt
    by_cases h10 : tt = 10
    case neg =>
      have e1 : (tt == 10) = false := by simpa using h10
      have HN := Lib.hid h10
      clear h10
      go_wp2
      go_ret2
      exact ⟨j, ⟨Nat.pos_of_ne_zero (fun e => HN.out (by rw [HT.out, e]; rfl)), HLE.out, HAH.out, .inl (by rw [← HT.out]; exact HN.out)⟩, by rw [← HT.out]; rfl, HPj.out⟩
    subst h10
    by_cases hl : (j : Int) < M
    case neg =>
      have e2 : decide ((j : Int) < M) = false := decide_eq_false hl
      have HL := Lib.hid hl
      clear hl
      go_wp2_with (first | (go_at_call 21; refine (HTR.out _).mono ?_; rintro e w' ⟨rfl, rfl⟩))
      go_ret2
      exact ⟨j, ⟨by have := HL.out; have := HM.out; omega, HLE.out, HAH.out, .inr (by have := HLE.out; have := HL.out; omega)⟩, by rw [← HT.out]; rfl, HPj.out⟩
    have e2 : decide ((j : Int) < M) = true := decide_eq_true hl
    have HL := Lib.hid hl
    have H8 : Hid (j < 8) := Lib.hid (by have := HM.out; omega)
    have hj8 : j ≤ 8 := by have := H8.out; omega
    clear hl
    have c0 : wr.cell? ⟨C, 0, none⟩ = some (.int .i64 slot) := by rw [cell_of_row wr C 0 _ _ _ HR.out]; rfl
    have c1 : wr.cell? ⟨C, 1, none⟩ = some (.int .i64 gen) := by rw [cell_of_row wr C 1 _ _ _ HR.out]; rfl
    go_wp2_with (first | (go_at_call 21; refine (HTR.out _).mono ?_; rintro e w' ⟨rfl, rfl⟩))
    refine (HC.out j hj8 wr HPj.out).mono ?_
    rintro e w3 ⟨rfl, h3, hk⟩
    have H3 := Lib.hid h3
    have R3 := Lib.hid (hk _ _ HR.out)
    clear h3 hk c0 c1 e2 HPj HR
    go_wp2
    go_roundg (8 - (j + 1))
    case measure => have := HG.out; have := H8.out; omega
    case rel => exact ⟨j + 1, Lib.hid rfl, Lib.hid (by have := HL.out; omega), rfl, by go_num, Lib.hid (fun i hi => by
      rcases Nat.lt_succ_iff_lt_or_eq.1 hi with h | h
      · exact HAH.out i h
      · rw [h]; exact HT.out.symm), H3, R3⟩
theorem mset_any (b : Nat) (gen slot tries : Int) (P : Ro → Fu → World → Prop) (hP : CallsAs 24 b gen slot P) (n : Nat) (s : Ro) (f : Fu) (w : World) (h : P s f w) (hd : Bd n s f) (hn : n + 8 < 1000) :
    Calls Try.prog 11 #[.pointer (some ⟨b, 0, none⟩), .agg #[.int .i64 slot, .int .i64 gen], .int .i64 tries] w fun e w' => ∃ j, SetJ gen slot s f (triesC tries) j ∧ e = .returned (.tuple #[.int .i64 (last gen slot s f j), .int .i64 (j : Int)]) ∧ P (st gen slot s f j).1 (st gen slot s f j).2 w' :=
  mset_at b gen slot tries _ (triesC_in tries) (tries_any tries) P hP n s f w h hd hn
end Go.Proofs.Ytjalmfomeehpgaa
