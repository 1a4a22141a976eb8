/-
  The program's own log: the records behind the head of the log's area.
-/
import Derived.Test.YtooikkjgcpngdaaWalC
namespace Go.Proofs.Ytooikkjgcpngdaa
open Go.RowKit
open Fr (Rec secB valL lenV)

variable {P Q : Nat → Prop} {w w' : World} {B d f v : Nat} {fu : Fu} {s : Dk} {l : Lg}

theorem below_grown {a w w' : World} {row : Option Nat} {n : Nat} (h : Below n a w) (hg : w.grownBy w' row) (hr : ∀ k, row = some k → n ≤ k) (hn : n ≤ a.heap.size) : Below n a w' :=
  ⟨hg.os.trans h.os, hg.tape.trans h.tape, hg.output.trans h.output, Nat.le_trans h.size hg.size, fun k hk => by
    rw [hg.block k (by have := h.size; omega) (fun e => by have := hr k e.symm; omega)]
    exact h.block k hk⟩
theorem own_base {e : TypeId} {n size k : Nat} {u : Value} {xs : List Value} (h : w.ownsRow B e size u n xs) (hk : u.ownBlock = some k) : B ≤ k := by
  rcases h.2 with ⟨hv, _⟩ | ⟨g, cap, cur, hv, hb, _⟩
  · rw [hv] at hk; cases hk
  · rw [hv] at hk
    simp [Value.ownBlock] at hk
    omega
theorem own_lt {e : TypeId} {n size k : Nat} {u : Value} {xs : List Value} (h : w.ownsRow B e size u n xs) (hk : u.ownBlock = some k) : k < w.heap.size := by
  rcases h.2 with ⟨hv, _⟩ | ⟨g, cap, cur, hv, _, hg, _⟩
  · rw [hv] at hk; cases hk
  · rw [hv] at hk
    simp [Value.ownBlock] at hk
    subst hk
    rcases Nat.lt_or_ge g w.heap.size with h1 | h1
    · exact h1
    · simp [Array.getElem?_eq_none h1] at hg

set_option maxRecDepth 20000 in
set_option maxHeartbeats 2000000 in
theorem records_any (h : WalP w B P d f s fu v l) (ha : l.area ≤ 1) (hbig : s.Big) (X : List ByteArray) (hX : X = recs s.now (l.area * s.half) l.gen (s.half - 1) 1) :
    Calls Try.prog 37 #[.pointer (some ⟨v, 0, none⟩)] w fun e w' => ∃ ra rc, e = .returned (.slice ra X.length rc) ∧ w'.ownsRow w.heap.size 9 1 (.slice ra X.length rc) X.length (strs X) ∧ Below w.heap.size w w' := by
  obtain ⟨hf5, hf2⟩ := Dk.half_le h.dsk.good
  have hbl := hbig.len
  have hf0 : 2 ≤ s.half := by unfold Dk.half; omega
  obtain ⟨i9, hi9, hz90, hz91, hz92⟩ := info_parts Tinfo9
  have HP := Lib.hid h
  have HA := Lib.hid ha
  have HX := Lib.hid hX
  have hah : l.area * s.half ≤ s.half := by rcases (by omega : l.area = 0 ∨ l.area = 1) with e | e <;> rw [e] <;> omega
  have HF2 : Hid (∀ j, j < s.half → l.area * s.half + j < s.now.length) := Lib.hid (fun j hj => by omega)
  have HH : Hid (∀ W, Below w.heap.size w W → Calls Try.prog 49 #[.pointer (some ⟨v, 0, none⟩)] W fun e w' => e = .returned (.int .i64 (s.half : Int)) ∧ W = w') := Lib.hid (fun W hb => half_any (h.under hb))
  have C1 : Hid (∀ W, Below w.heap.size w W → W.cell? ⟨v, 1, none⟩ = some (.int .i64 (l.area : Int))) := Lib.hid (fun W hb => (h.under hb).log.c1)
  have C2 : Hid (∀ W, Below w.heap.size w W → W.cell? ⟨v, 2, none⟩ = some (.int .i64 (l.gen : Int))) := Lib.hid (fun W hb => (h.under hb).log.c2)
  obtain ⟨hf, hhf⟩ : ∃ hf, hf = s.half := ⟨_, rfl⟩
  obtain ⟨A, hA⟩ : ∃ A, A = l.area := ⟨_, rfl⟩
  obtain ⟨G, hG⟩ : ∃ G, G = l.gen := ⟨_, rfl⟩
  rw [← hhf] at HH hf5 hf0
  rw [← hA] at C1
  rw [← hG] at C2
  have HHF := Lib.hid hhf
  have HAE := Lib.hid hA
  have HGE := Lib.hid hG
  clear h ha hX hah hf2 hbig hbl hhf hA hG
  go_enter Try.func37, Try.ntmps37
  go_wp2
  go_loopg [3, 4] (hf - 1) (fun gg r i wr => ∃ j L : Nat, ∃ ra rc, ∃ acc : List ByteArray, Hid (gg = hf - j) ∧ Hid (L + 1 = j) ∧ j ≤ hf ∧ r = .slice ra L rc ∧ i = .int .i64 j ∧ Hid (acc.length = L) ∧ Hid (wr.ownsRow w.heap.size 9 1 (.slice ra L rc) L (strs acc)) ∧ Hid (X = acc ++ recs s.now (l.area * s.half) l.gen (hf - j) j) ∧ Hid (Below w.heap.size w wr))
  case atStart => exact ⟨1, 0, none, 0, [], Lib.hid (by omega), Lib.hid rfl, by omega, rfl, rfl, Lib.hid rfl, Lib.hid ⟨rfl, .inl ⟨rfl, rfl⟩⟩, Lib.hid (by rw [HX.out, HHF.out]; rfl), Lib.hid (Below.refl _ _)⟩
  case round =>
    obtain ⟨j, L, ra, rc, acc, HJ, HL, hj, rfl, rfl, HAC, HOW, HXX, HBL⟩ := hrel
    by_cases hlt : j < hf
    · have c1 := C1.out _ HBL.out
      by_cases hk : ∃ p, look (s.at (l.area * s.half + j)) = some (l.gen, j, p)
      · obtain ⟨p, hk⟩ := hk
        have HK := Lib.hid hk
        have HG : Hid (∀ W, Below w.heap.size w W → Calls Try.prog 57 #[.pointer (some ⟨v, 0, none⟩), .int .i64 (A : Int), .int .i64 (j : Int)] W fun e w' => e = .returned (.tuple #[.int .i64 (G : Int), .string p, .bool true]) ∧ Below W.heap.size W w') := Lib.hid (fun W hb => by
          rw [HAE.out, HGE.out]
          exact pget_yes l.area j _ l.gen p (HP.out.under hb) HA.out (by omega) rfl (HF2.out j (by rw [← HHF.out]; exact hlt)) hk)
        clear hk
        go_wp2_with fail
        refine (HH.out _ HBL.out).mono ?_
        rintro e w' ⟨rfl, rfl⟩
        go_wp2_with fail
        refine (HG.out _ HBL.out).mono ?_
        rintro e w1 ⟨rfl, hb1⟩
        have HB1 : Hid (Below w.heap.size w w1) := Lib.hid (HBL.out.trans (hb1.mono HBL.out.size))
        have c2 := C2.out _ HB1.out
        have HOW1 : Hid (w1.ownsRow w.heap.size 9 1 (.slice ra L rc) L (strs acc)) := Lib.hid (own_other HOW.out fun g hg => hb1.block g (own_lt HOW.out hg))
        have hL5 : L < 512 := by have := HL.out; omega
        clear hb1 c1
        go_wp2_with (first | (at_builtin; go_must (refine wpList_append_lies _ rfl (.tmp 35) (.tmp 37) 36 rfl w.heap.size 9 i9 (.string ⟨#[]⟩) 1 16 Try.underlying36 hi9 hz90 hz91 hz92 rfl (by decide) (.slice ra L rc) L (strs acc) rfl (HOW1.out.alloc _) ⟨w1.heap.size, 0, none⟩ 1 1 [.string p] rfl rfl (cell_one_new _ _ _) (by simp [Value.oneCell']) (by decide) (by unfold maxLen; omega) (by omega) (by have := HB1.out.size; simp; omega) _ rfl ?_); intro g3 cap3 w3 hown3 hgr3 hor3 hlt3; have HOW3 := Lib.hid hown3; have HB3 := Lib.hid (below_grown (HB1.out.alloc HB1.out.size _) hgr3 (fun k hk => own_base HOW1.out hk) (Nat.le_refl _)); clear hown3 hgr3 hor3 hlt3 c2))
        go_roundg (hf - (j + 1))
        case measure => have := HJ.out; omega
        case rel =>
          refine ⟨j + 1, L + 1, some ⟨g3, 0, none⟩, cap3, acc ++ [p], Lib.hid rfl, Lib.hid (by rw [HL.out]), by omega, rfl, by go_num, Lib.hid (by simp [HAC.out]), Lib.hid (by rw [strs_snoc]; exact HOW3.out), Lib.hid ?_, HB3⟩
          rw [HXX.out, show hf - j = (hf - (j + 1)) + 1 by omega, recs_yes (p := p) HK.out, List.append_assoc]
          rfl
      · have hno : ∀ p, look (s.now.getD (l.area * s.half + j) nil) ≠ some (l.gen, j, p) := fun p e => hk ⟨p, e⟩
        have HE : Hid (X = acc) := Lib.hid (by rw [HXX.out, recs_no _ hno, List.append_nil])
        by_cases hk2 : ∃ g' p, look (s.at (l.area * s.half + j)) = some (g', j, p)
        · obtain ⟨g', p, hk2⟩ := hk2
          have hgn : g' ≠ G := fun e => hno p (by rw [← HGE.out, ← e]; exact hk2)
          have HG : Hid (∀ W, Below w.heap.size w W → Calls Try.prog 57 #[.pointer (some ⟨v, 0, none⟩), .int .i64 (A : Int), .int .i64 (j : Int)] W fun e w' => e = .returned (.tuple #[.int .i64 (g' : Int), .string p, .bool true]) ∧ Below W.heap.size W w') := Lib.hid (fun W hb => by
            rw [HAE.out]
            exact pget_yes l.area j _ g' p (HP.out.under hb) HA.out (by omega) rfl (HF2.out j (by rw [← HHF.out]; exact hlt)) hk2)
          obtain ⟨gi, hgi⟩ : ∃ gi : Int, gi = (g' : Int) := ⟨_, rfl⟩
          obtain ⟨GI, hGI⟩ : ∃ GI : Int, GI = (G : Int) := ⟨_, rfl⟩
          have C2' := C2
          rw [← hgi] at HG
          rw [← hGI] at C2'
          have hne : ¬ gi = GI := by omega
          have e1 : (gi == GI) = false := by simpa using hne
          have e2 : decide (gi = GI) = false := by simpa using hne
          clear hk hk2 hno hgn hgi hGI C2
          go_wp2_with fail
          refine (HH.out _ HBL.out).mono ?_
          rintro e w' ⟨rfl, rfl⟩
          go_wp2_with fail
          refine (HG.out _ HBL.out).mono ?_
          rintro e w1 ⟨rfl, hb1⟩
          have HB1 : Hid (Below w.heap.size w w1) := Lib.hid (HBL.out.trans (hb1.mono HBL.out.size))
          have c2 := C2'.out _ HB1.out
          have HOW1 : Hid (w1.ownsRow w.heap.size 9 1 (.slice ra L rc) L (strs acc)) := Lib.hid (own_other HOW.out fun g hg => hb1.block g (own_lt HOW.out hg))
          clear hb1 c1
          go_wp2
          go_ret
          refine ⟨ra, rc, ?_, ?_, HB1.out⟩
          · rw [HE.out, HAC.out]; rfl
          · rw [HE.out, HAC.out]; exact HOW1.out
        · have hno2 : ∀ g' p, look (s.at (l.area * s.half + j)) ≠ some (g', j, p) := fun g' p e => hk2 ⟨g', p, e⟩
          have HG : Hid (∀ W, Below w.heap.size w W → Calls Try.prog 57 #[.pointer (some ⟨v, 0, none⟩), .int .i64 (A : Int), .int .i64 (j : Int)] W fun e w' => e = .returned (.tuple #[.int .i64 0, .string ⟨#[]⟩, .bool false]) ∧ Below W.heap.size W w') := Lib.hid (fun W hb => by
            rw [HAE.out]
            exact pget_no l.area j _ (HP.out.under hb) HA.out (by omega) rfl (HF2.out j (by rw [← HHF.out]; exact hlt)) hno2)
          clear hk hk2 hno hno2
          go_wp2_with fail
          refine (HH.out _ HBL.out).mono ?_
          rintro e w' ⟨rfl, rfl⟩
          go_wp2_with fail
          refine (HG.out _ HBL.out).mono ?_
          rintro e w1 ⟨rfl, hb1⟩
          have HB1 : Hid (Below w.heap.size w w1) := Lib.hid (HBL.out.trans (hb1.mono HBL.out.size))
          have HOW1 : Hid (w1.ownsRow w.heap.size 9 1 (.slice ra L rc) L (strs acc)) := Lib.hid (own_other HOW.out fun g hg => hb1.block g (own_lt HOW.out hg))
          clear hb1 c1
          go_wp2
          go_ret
          refine ⟨ra, rc, ?_, ?_, HB1.out⟩
          · rw [HE.out, HAC.out]; rfl
          · rw [HE.out, HAC.out]; exact HOW1.out
    · obtain rfl : j = hf := by omega
      have HE : Hid (X = acc) := Lib.hid (by rw [HXX.out, Nat.sub_self]; simp [recs])
      go_wp2_with fail
      refine (HH.out _ HBL.out).mono ?_
      rintro e w' ⟨rfl, rfl⟩
      go_wp2
      go_ret
      refine ⟨ra, rc, ?_, ?_, HBL.out⟩
      · rw [HE.out, HAC.out]; rfl
      · rw [HE.out, HAC.out]; exact HOW.out
end Go.Proofs.Ytooikkjgcpngdaa
