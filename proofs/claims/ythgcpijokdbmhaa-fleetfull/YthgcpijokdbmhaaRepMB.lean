/-
  The document's own Set: Scale, Ready, Count, Full.
-/
import Derived.Test.YthgcpijokdbmhaaRepM
import Derived.Deep.LoopGhost
import Derived.Deep.QuietTactic
import Derived.BigQuiet
namespace Go.Proofs.Ythgcpijokdbmhaa
open Go.RowKit

set_option maxRecDepth 100000 in
set_option maxHeartbeats 4000000 in
theorem mscale_any (b : Nat) (v : Value) (l : List Bool) (n : Int) (w : World) (h : RsM w b v l) : Calls Try.prog 23 #[.pointer (some ⟨b, 0, none⟩), .int .i64 n] w fun e w' => e = .returned (.tuple #[]) ∧ ∃ v', RsM w' b v' (scaleL l n) ∧ NewV w v v' ∧ But1 b w w' := by
  have HR := Lib.hid h
  have bs0 := buildL0
  have bs1 := buildL1
  obtain ⟨c, hc⟩ : ∃ c, c = clampN n := ⟨_, rfl⟩
  have HC : Hid (scaleL l n = padL l c) := Lib.hid (by rw [hc]; rfl)
  have hn1 : Hid (∀ i : Nat, i < c → (i : Int) < n ∧ i < 32) := Lib.hid (fun i hi => by rw [hc] at hi; unfold clampN at hi; omega)
  have hn2 : Hid (∀ i : Nat, ¬ i < c → ¬ (i : Int) < n ∨ ¬ (i : Int) < 32) := Lib.hid (fun i hi => by rw [hc] at hi; unfold clampN at hi; omega)
  have hc32 : c ≤ 32 := by rw [hc]; exact clampN_le n
  clear h hc
  go_enter Try.func23, Try.ntmps23
  go_wp2
  go_loopg [4, 5] c (fun gg ov iv wr => ∃ i : Nat, Hid (gg = c - i) ∧ i ≤ c ∧ iv = .int .i64 (i : Int) ∧ Hid (OwnL w.heap.size wr ov (padL l i)) ∧ Hid (Below w.heap.size w wr))
  case atStart => exact ⟨0, Lib.hid rfl, Nat.zero_le _, rfl, Lib.hid (by rw [padL_zero]; exact ownL0 w (Nat.le_refl _)), Lib.hid (below_alloc w _)⟩
  case round =>
    obtain ⟨i, HG, hi, rfl, HO, HB⟩ := hrel
    obtain ⟨Ao, no, co, rfl⟩ := HO.out.shape3
    have HRw := Lib.hid (HR.out.keep HB.out.block)
    have k0 := HRw.out.c0
    have kf := HRw.out.fr
    by_cases hlt : i < c
    case neg =>
      obtain rfl : i = c := by omega
      have hput := HRw.out
      obtain ⟨hA, hN, hU⟩ := HR.out.put HB.out HO.out (by rw [padL_len]; exact hc32)
      rw [← HC.out] at hA
      have HA := Lib.hid (And.intro hA (And.intro hN hU))
      clear hA hN hU hput HC
      by_cases hn : (i : Int) < n
      case neg =>
        have e1 : decide ((i : Int) < n) = false := decide_eq_false hn
        clear hn
        go_wp2
        go_end0
        exact ⟨rfl, _, HA.out.1, HA.out.2.1, HA.out.2.2⟩
      have e1 : decide ((i : Int) < n) = true := decide_eq_true hn
      have e2 : decide ((i : Int) < 32) = false := decide_eq_false (by have := hn2.out i hlt; omega)
      have e3 : decide (i < 32) = false := decide_eq_false (by have := hn2.out i hlt; omega)
      clear hn
      go_wp2
      go_end0
      exact ⟨rfl, _, HA.out.1, HA.out.2.1, HA.out.2.2⟩
    obtain ⟨h1, h2⟩ := hn1.out i hlt
    have e1 : decide ((i : Int) < n) = true := decide_eq_true h1
    have e2 : decide ((i : Int) < 32) = true := decide_eq_true (by omega)
    have e3 : decide (i < 32) = true := decide_eq_true h2
    have HLT := Lib.hid hlt
    clear h1 h2 hlt
    obtain ⟨A, cp, rfl⟩ := HRw.out.own.shape
    by_cases hl : i < l.length
    case pos =>
      have e4 : decide ((i : Int) < (l.length : Int)) = true := decide_eq_true (by omega)
      have e5 : decide (i < l.length) = true := decide_eq_true hl
      obtain ⟨g, rfl, hg, kc, _⟩ := HRw.out.own.kth hl
      obtain ⟨x, hx⟩ : ∃ x, x = l.getD i false := ⟨_, rfl⟩
      rw [← hx] at kc
      have HX := Lib.hid hx
      obtain ⟨v', W', hr, ho, hgr⟩ := appendL1 x HO.out HB.out.size (by rw [padL_len]; omega)
      have HRUN := Lib.hid hr
      have HO' := Lib.hid ho
      have HB' : Hid (Below w.heap.size w W') := Lib.hid ⟨hgr.os.trans HB.out.os, hgr.tape.trans HB.out.tape, hgr.output.trans HB.out.output, Nat.le_trans HB.out.size hgr.size, fun k hk => (hgr.block k (Nat.lt_of_lt_of_le hk HB.out.size) (fun e => by have := (HO.out.own k e.symm).1; omega)).trans (HB.out.block k hk)⟩
      clear hx hr ho hgr hg
      go_wp2_with (first | (at_builtin; refine wpList_append_is rfl (.tmp 23) (.tmp 31) 48 rfl rfl rfl HRUN.out ?_))
      go_roundg (c - (i + 1))
      case measure => have := HG.out; have := HLT.out; omega
      case rel => exact ⟨i + 1, Lib.hid rfl, HLT.out, by go_num, Lib.hid (by rw [padL_succ, ← HX.out]; exact HO'.out), HB'⟩
    have e4 : decide ((i : Int) < (l.length : Int)) = false := decide_eq_false (by omega)
    have e5 : decide (i < l.length) = false := decide_eq_false hl
    have HX : Hid (l.getD i false = false) := Lib.hid (by rw [List.getD_eq_getElem?_getD, List.getElem?_eq_none (by omega)]; rfl)
    obtain ⟨v', W', hr, ho, hgr⟩ := appendL1 false HO.out HB.out.size (by rw [padL_len]; omega)
    have HRUN := Lib.hid hr
    have HO' := Lib.hid ho
    have HB' : Hid (Below w.heap.size w W') := Lib.hid ⟨hgr.os.trans HB.out.os, hgr.tape.trans HB.out.tape, hgr.output.trans HB.out.output, Nat.le_trans HB.out.size hgr.size, fun k hk => (hgr.block k (Nat.lt_of_lt_of_le hk HB.out.size) (fun e => by have := (HO.out.own k e.symm).1; omega)).trans (HB.out.block k hk)⟩
    clear hr ho hgr hl
    go_wp2_with (first | (at_builtin; refine wpList_append_is rfl (.tmp 33) (.tmp 34) 48 rfl rfl rfl HRUN.out ?_))
    go_roundg (c - (i + 1))
    case measure => have := HG.out; have := HLT.out; omega
    case rel => exact ⟨i + 1, Lib.hid rfl, HLT.out, by go_num, Lib.hid (by rw [padL_succ, HX.out]; exact HO'.out), HB'⟩
set_option maxRecDepth 100000 in
set_option maxHeartbeats 4000000 in
theorem mready_any (b : Nat) (v : Value) (l : List Bool) (i : Int) (on : Bool) (w : World) (h : RsM w b v l) : Calls Try.prog 14 #[.pointer (some ⟨b, 0, none⟩), .int .i64 i, .bool on] w fun e w' => e = .returned (.bool (decide (isW l i))) ∧ ∃ v', RsM w' b v' (readyL l i on) ∧ NewV w v v' ∧ But1 b w w' := by
  have HR := Lib.hid h
  have k0 := h.c0
  clear h
  obtain ⟨A, cp, rfl⟩ := HR.out.own.shape
  by_cases h1 : i < 0
  case pos =>
    have e1 : decide (i < 0) = true := decide_eq_true h1
    have HN : Hid (¬ isW l i) := Lib.hid (fun h => by unfold isW at h; omega)
    clear h1
    go_enter Try.func14, Try.ntmps14
    go_wp2
    go_ret
    exact ⟨by rw [decide_eq_false HN.out]; rfl, _, by unfold readyL; rw [if_neg HN.out]; exact HR.out, fun k hk => .inl hk, But1.refl _ _⟩
  have e1 : decide (i < 0) = false := decide_eq_false h1
  by_cases h2 : (l.length : Int) ≤ i
  case pos =>
    have e2 : decide ((l.length : Int) ≤ i) = true := decide_eq_true h2
    have HN : Hid (¬ isW l i) := Lib.hid (fun h => by unfold isW at h; omega)
    clear h1 h2
    go_enter Try.func14, Try.ntmps14
    go_wp2
    go_ret
    exact ⟨by rw [decide_eq_false HN.out]; rfl, _, by unfold readyL; rw [if_neg HN.out]; exact HR.out, fun k hk => .inl hk, But1.refl _ _⟩
  have e2 : decide ((l.length : Int) ≤ i) = false := decide_eq_false h2
  have HN : Hid (isW l i) := Lib.hid (by unfold isW; omega)
  obtain ⟨j, rfl⟩ : ∃ j : Nat, i = j := ⟨i.toNat, by omega⟩
  have hj : j < l.length := by omega
  have hj9 : j < 32 := by have := HR.out.le; omega
  have e3 : decide (l.length ≤ j) = false := decide_eq_false (by omega)
  obtain ⟨v', W', hr, ho, hb⟩ := appendL HR.out.own (by have := HR.out.le; omega)
  obtain ⟨A', c', rfl⟩ := ho.shape
  obtain ⟨g, rfl, hg, kc, kfr⟩ := ho.kth hj
  have HRUN := Lib.hid hr
  have ho2 := ho.set j on
  have hb2 : Below w.heap.size w (W'.setCell ⟨g, j, none⟩ (.bool on)) := ⟨hb.os, hb.tape, hb.output, by simpa [World.setCell] using hb.size, fun k hk => (Below.heap_setCell W' ⟨g, j, none⟩ (.bool on) k (by intro e; subst e; omega)).trans (hb.block k hk)⟩
  obtain ⟨hA, hN', hU⟩ := HR.out.put hb2 ho2 (by rw [List.length_set]; exact HR.out.le)
  have HA := Lib.hid (And.intro hA (And.intro hN' hU))
  have HK := Lib.hid (HR.out.keep hb2.block)
  have k1 : (w.alloc (.cells #[] 4)).cell? ⟨b, 0, none⟩ = some (.slice A l.length cp) := ((below_alloc w _).cell (p := ⟨b, 0, none⟩) (lt_of_block HR.out.row)).trans HR.out.c0
  have k2 := HK.out.fr
  have k3' := HK.out.c0
  have bs0 := buildL0
  rw [List.length_set] at HA
  clear h1 h2 hr ho ho2 hb hb2 hA hN' hU
  go_enter Try.func14, Try.ntmps14
  go_wp2_with (first | (at_builtin; refine wpList_append_is rfl (.tmp 19) (.tmp 23) 48 rfl rfl rfl HRUN.out ?_))
  go_ret
  exact ⟨by rw [decide_eq_true HN.out]; rfl, _, by unfold readyL; rw [if_pos HN.out]; exact HA.out.1, HA.out.2.1, HA.out.2.2⟩
set_option maxRecDepth 100000 in
set_option maxHeartbeats 4000000 in
theorem mcount_any (b : Nat) (v : Value) (l : List Bool) (w : World) (h : RsM w b v l) : Calls Try.prog 28 #[.pointer (some ⟨b, 0, none⟩)] w fun e w' => e = .returned (.int .i64 (cntL l : Int)) ∧ w = w' := by
  have HR := Lib.hid h
  have k0 := h.c0
  clear h
  obtain ⟨A, cp, rfl⟩ := HR.out.own.shape
  go_enter Try.func28, Try.ntmps28
  go_wp2
  go_loopg [3, 4] l.length (fun gg nv iv wr => ∃ i : Nat, Hid (gg = l.length - i) ∧ i ≤ l.length ∧ nv = .int .i64 (cntL (l.take i) : Int) ∧ iv = .int .i64 (i : Int) ∧ wr = w)
  case atStart => exact ⟨0, Lib.hid rfl, Nat.zero_le _, rfl, rfl, rfl⟩
  case round =>
    obtain ⟨i, HG, hi, rfl, rfl, rfl⟩ := hrel
    have h32 := HR.out.le
    by_cases hl : i < l.length
    case neg =>
      have e4 : decide ((i : Int) < (l.length : Int)) = false := decide_eq_false (by omega)
      have e5 : decide (i < l.length) = false := decide_eq_false hl
      obtain rfl : i = l.length := by omega
      have HT : Hid (cntL (l.take l.length) = cntL l) := Lib.hid (by rw [List.take_length])
      clear hl
      go_wp2
      go_ret
      exact ⟨by rw [← HT.out]; rfl, rfl⟩
    have e4 : decide ((i : Int) < (l.length : Int)) = true := decide_eq_true (by omega)
    have e5 : decide (i < l.length) = true := decide_eq_true hl
    obtain ⟨g, rfl, hg, kc, _⟩ := HR.out.own.kth hl
    have hs := cnt_take_succ l i hl
    have hcle : cntL (l.take i) ≤ 32 := Nat.le_trans (cnt_le _) (by rw [List.length_take]; omega)
    obtain ⟨q, hq⟩ : ∃ q, q = cntL (l.take i) := ⟨_, rfl⟩
    rw [← hq] at hs hcle ⊢
    have HLT := Lib.hid hl
    obtain ⟨x, hx⟩ : ∃ x, x = l.getD i false := ⟨_, rfl⟩
    rw [← hx] at kc hs
    clear hq hg
    cases x with
    | true =>
      have HS := Lib.hid hs
      clear hs hx
      go_wp2
      go_roundg (l.length - (i + 1))
      case measure => have := HG.out; have := HLT.out; omega
      case rel => exact ⟨i + 1, Lib.hid rfl, HLT.out, by rw [HS.out]; go_num, by go_num, rfl⟩
    | false =>
      have HS := Lib.hid hs
      clear hs hx
      go_wp2
      go_roundg (l.length - (i + 1))
      case measure => have := HG.out; have := HLT.out; omega
      case rel => exact ⟨i + 1, Lib.hid rfl, HLT.out, by rw [HS.out]; rfl, by go_num, rfl⟩
theorem RsM.drewN {W : World} {b : Nat} {v : Value} {l : List Bool} (h : RsM W b v l) (n : Nat) : RsM (W.drewN n) b v l := h.keep (fun _ _ => by simp)
theorem mcount_q (b : Nat) (v : Value) (l : List Bool) (n : Nat) (w : World) (h : RsM w b v l) : Calls Try.prog 28 #[.pointer (some ⟨b, 0, none⟩)] (w.drewN n) fun e w' => e = .returned (.int .i64 (cntL l : Int)) ∧ ∃ m, w' = w.drewN m :=
  Calls.quiet_of_same ((mcount_any b v l _ (h.drewN n)).mono fun _ _ ⟨he, hw⟩ => ⟨he, hw.symm⟩)
set_option maxRecDepth 100000 in
set_option maxHeartbeats 4000000 in
theorem mfull_any (b : Nat) (v : Value) (l : List Bool) (w : World) (h : RsM w b v l) : Calls Try.prog 20 #[.pointer (some ⟨b, 0, none⟩)] w fun e w' => e = .returned (.bool (fullL l)) ∧ ∃ m, w' = w.drewN m := by
  have HR := Lib.hid h
  have k0 := h.c0
  clear h
  obtain ⟨A, cp, rfl⟩ := HR.out.own.shape
  have h32 := HR.out.le
  unfold fullL
  by_cases h0 : 0 < l.length
  case neg =>
    have e1 : decide (0 < (l.length : Int)) = false := decide_eq_false (by omega)
    have e2 : decide (0 < l.length) = false := decide_eq_false h0
    have HE2 := Lib.hid e2
    clear h0
    go_enter Try.func20, Try.ntmps20
    go_wp2
    go_quiet (fail)
    go_wp2
    go_ret
    exact ⟨by rw [HE2.out]; rfl, _, rfl⟩
  have e1 : decide (0 < (l.length : Int)) = true := decide_eq_true (by omega)
  have e2 : decide (0 < l.length) = true := decide_eq_true h0
  have HE2 := Lib.hid e2
  obtain ⟨q, hq⟩ : ∃ q, q = cntL l := ⟨_, rfl⟩
  have HQ := Lib.hid hq
  rw [← hq]
  clear h0 hq
  have HCN : Hid (∀ n, Calls Try.prog 28 #[.pointer (some ⟨b, 0, none⟩)] (w.drewN n) fun e w' => e = .returned (.int .i64 (q : Int)) ∧ ∃ m, w' = w.drewN m) := Lib.hid (fun n => by rw [HQ.out]; exact mcount_q b _ l n w HR.out)
  by_cases hql : q = l.length
  case pos =>
    have e3 : ((q : Int) == (l.length : Int)) = true := by rw [hql]; exact beq_self_eq_true _
    have HE := Lib.hid hql
    clear hql
    go_enter Try.func20, Try.ntmps20
    go_wp2
    go_quiet (first | (go_at_call 28; exact HCN.out _))
    go_wp2
    go_ret
    exact ⟨by rw [HE2.out, decide_eq_true HE.out]; rfl, _, rfl⟩
  have e3 : ((q : Int) == (l.length : Int)) = false := beq_eq_false_iff_ne.2 (fun e => hql (by omega))
  have HE := Lib.hid hql
  clear hql
  go_enter Try.func20, Try.ntmps20
  go_wp2
  go_quiet (first | (go_at_call 28; exact HCN.out _))
  go_wp2
  go_ret
  exact ⟨by rw [HE2.out, decide_eq_false HE.out]; rfl, _, rfl⟩
theorem mfull_q (b : Nat) (v : Value) (l : List Bool) (n : Nat) (w : World) (h : RsM w b v l) : Calls Try.prog 20 #[.pointer (some ⟨b, 0, none⟩)] (w.drewN n) fun e w' => e = .returned (.bool (fullL l)) ∧ ∃ m, w' = w.drewN m :=
  Calls.quiet_of (mfull_any b v l _ (h.drewN n))
end Go.Proofs.Ythgcpijokdbmhaa
