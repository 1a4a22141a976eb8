/-
  switchback's FusePlays: in every order of calls just those are borne that the document says, and as many. For every input the call returns true, and each argument reads afterwards as it read before. No condition.
-/
import Derived.Test.YtebeeeillflflaaLift
import Derived.Deep.LoopGhost
import Derived.Deep.SlicePairs
import Derived.BigQuiet
namespace Go.Proofs.Ytebeeeillflflaa.fusePlays
open Go.ChangeShapes Go.WideShapes Go.ChangeAt Go.RowKit

/-- Both fuses are alike: neither is armed, and neither blown; or both are, with as many left, and a blown one has none. -/
def Alike (ar : Bool) (ls lm : Int) (bl : Bool) : Prop := (ar = false ∧ bl = false) ∨ (ar = true ∧ ls = lm ∧ 0 ≤ ls ∧ ls ≤ 9223372036854775807 ∧ (bl = true → ls = 0))

/-- Both fuses lie in memory, alike, with as many calls borne; nothing that was there before turned. -/
def Both (w0 w : World) (f m k : Nat) : Prop := ∃ (ar : Bool) (ls lm : Int) (bl : Bool) (c : Int), Fz w f 37 ⟨ar, ls, bl, c⟩ ∧ Fz w m 27 ⟨ar, lm, bl, c⟩ ∧ Alike ar ls lm bl ∧ 0 ≤ c ∧ c ≤ k ∧ Below w0.heap.size w0 w

theorem blown_q (f : Nat) (ar : Bool) (l : Int) (bl : Bool) (c : Int) (w : World) (n : Nat) (h : Fz w f 37 ⟨ar, l, bl, c⟩) : Calls Try.prog 15 #[.pointer (some ⟨f, 0, none⟩)] (w.drewN n) fun e w'' => e = .returned (.bool bl) ∧ ∃ m, w'' = w.drewN m :=
  Calls.quiet_of_same ((blown_any f _ (w.drewN n) h).mono fun _ _ ⟨he, hw⟩ => ⟨he, hw.symm⟩)
theorem count_q (f : Nat) (ar : Bool) (l : Int) (bl : Bool) (c : Int) (w : World) (n : Nat) (h : Fz w f 37 ⟨ar, l, bl, c⟩) : Calls Try.prog 16 #[.pointer (some ⟨f, 0, none⟩)] (w.drewN n) fun e w'' => e = .returned (.int .i64 c) ∧ ∃ m, w'' = w.drewN m :=
  Calls.quiet_of_same ((count_any f _ (w.drewN n) h).mono fun _ _ ⟨he, hw⟩ => ⟨he, hw.symm⟩)
theorem below_drew {B : Nat} {a w : World} (h : Below B a w) (n : Nat) : Below B a (w.drewN n) := ⟨h.os, h.tape, h.output, h.size, h.block⟩
theorem only_cell {b g i : Nat} {w w' : World} (h : Only b w w') (hg : g ≠ b) : w'.cell? ⟨g, i, none⟩ = w.cell? ⟨g, i, none⟩ := World.cell?_of_block (w := w) (h.block g hg)
theorem _root_.Go.Proofs.Ytebeeeillflflaa.Fz.alloc {w : World} {b : Nat} {t : TypeId} {s : Fu} (h : Fz w b t s) (o : Obj) : Fz (w.alloc o) b t s := (Below.heap_alloc w o b h.lt).trans h

set_option maxHeartbeats 1000000 in
theorem walk_long (n c : Nat) (A : Option Addr) (w : World) (h : 500 < n) (hn : n ≤ maxLen) : Calls Try.prog 3 #[.slice A n c] w (Holds w) := by
  unfold maxLen at hn
  have e1 : decide (500 < (n : Int)) = true := by simp; omega
  go_enter Try.func3, Try.ntmps3
  go_wp2_with fail
  refine (new_any _).mono ?_
  rintro e w1 ⟨b, rfl, hg, hz, hb⟩
  have HB := Lib.hid hb
  clear hz hb hg
  go_wp2_with fail
  refine (awake_yes _).mono ?_
  rintro e w2 ⟨rfl, hb2⟩
  have HB2 := Lib.hid ((HB.out.alloc HB.out.size _).trans (hb2.mono (Nat.le_trans HB.out.size (by simp))))
  clear hb2 HB
  go_wp2_with fail
  refine (awake_yes _).mono ?_
  rintro e w3 ⟨rfl, hb3⟩
  go_wp2
  go_ret
  exact ⟨rfl, HB2.out.trans (hb3.mono HB2.out.size)⟩

set_option maxHeartbeats 2000000 in
theorem walk_main (b off c : Nat) (xs : List (Int × Int)) (w : World) (hl : xs.length ≤ 500) (hp : 0 < xs.length) (hb : b < w.heap.size)
    (hv : ∀ k (hk : k < xs.length), w.cell? ⟨b, off + k * 2, none⟩ = some (.int .i64 xs[k].1) ∧ w.cell? ⟨b, off + k * 2 + 1, none⟩ = some (.int .i64 xs[k].2) ∧ xs[k].2 ≤ 9223372036854775807) : Calls Try.prog 3 #[.slice (some ⟨b, off, none⟩) xs.length c] w (Holds w) := by
  have e1 : decide (500 < (xs.length : Int)) = false := by simp; omega
  have HV := Lib.hid hv
  clear hv
  go_enter Try.func3, Try.ntmps3
  go_wp2_with fail
  refine (new_any _).mono ?_
  rintro e w1 ⟨f, rfl, hg, hz, hb1⟩
  have HG := Lib.hid (Nat.le_of_eq hg)
  have HB1 := Lib.hid hb1
  have HZ1 := Lib.hid hz
  clear hz hb1 hg
  obtain ⟨m, hm⟩ : ∃ m, m = w1.heap.size := ⟨_, rfl⟩
  have HM := Lib.hid hm
  go_wp2_with fail
  rw [← hm]
  clear hm
  refine (awake_yes _).mono ?_
  rintro e w2 ⟨rfl, hb2⟩
  have HFM : Hid (f < m) := by rw [HM.out]; exact Lib.hid HZ1.out.lt
  have HGM : Hid (w.heap.size ≤ m) := by rw [HM.out]; exact Lib.hid HB1.out.size
  have HR : Hid (Both w w2 f m 0) := by
    refine Lib.hid ⟨false, 0, 0, false, 0, ?_, ?_, .inl ⟨rfl, rfl⟩, by omega, by omega, (HB1.out.alloc HB1.out.size _).trans (hb2.mono (Nat.le_trans HB1.out.size (by simp)))⟩
    · exact (HZ1.out.alloc _).under hb2 (by have := HZ1.out.lt; simp; omega)
    · rw [HM.out]
      exact (Fz.new w1 27 false 0 false 0).under hb2 (by simp)
  clear hb2 HB1 HZ1 HM
  go_wp2
  go_loopg [24] xs.length (fun g i wr => ∃ k : Nat, Hid (g = xs.length - k) ∧ k ≤ xs.length ∧ i = .int .i64 k ∧ Hid (Both w wr f m k))
  case atStart => exact ⟨0, Lib.hid rfl, Nat.zero_le _, rfl, HR⟩
  case round =>
    obtain ⟨k, HK, hk, rfl, HR⟩ := hrel
    by_cases hlt : k < xs.length
    · obtain ⟨ar, ls, lm, bl, cc, hf, hm, ha, hc1, hc2, hbl⟩ := HR.out
      obtain ⟨v0, v1, v2⟩ := HV.out k hlt
      obtain ⟨kd, hkd⟩ : ∃ kd, kd = xs[k].1 := ⟨_, rfl⟩
      obtain ⟨n, hn⟩ : ∃ n, n = xs[k].2 := ⟨_, rfl⟩
      rw [← hkd] at v0
      rw [← hn] at v1 v2
      have c0 : wr.cell? ⟨b, off + k * 2, none⟩ = some (.int .i64 kd) := (hbl.cell (p := ⟨b, off + k * 2, none⟩) hb).trans v0
      have c1 : wr.cell? ⟨b, off + k * 2 + 1, none⟩ = some (.int .i64 n) := (hbl.cell (p := ⟨b, off + k * 2 + 1, none⟩) hb).trans v1
      have HF := Lib.hid hf
      have HMM := Lib.hid hm
      have HA := Lib.hid ha
      have HBL := Lib.hid hbl
      clear hf hm ha hbl v0 v1 hkd hn
      clear HR
      by_cases h1 : kd = 1
      · subst h1
        go_wp2_with fail
        refine (arm_any f _ _ _ (HF.out.alloc _)).mono ?_
        rintro e w3 ⟨rfl, hz, ho⟩
        have HF3 := Lib.hid (show Fz w3 f 37 ⟨true, max n 0, false, cc⟩ from hz)
        have HM3 := Lib.hid ((HMM.out.alloc _).only ho (by have := HFM.out; omega))
        have HB3 := Lib.hid (ho.below (HBL.out.alloc HBL.out.size _) HG.out)
        have d1 : w3.cell? ⟨wr.heap.size, 1, none⟩ = some (.int .i64 n) := (only_cell ho (by have := HF.out.lt; omega)).trans (by simp)
        clear hz ho HF HMM HBL
        go_wp2_with fail
        refine (marm_any m _ _ _ HM3.out).mono ?_
        rintro e w4 ⟨rfl, hz, ho⟩
        have HM4 := Lib.hid (show Fz w4 m 27 ⟨true, max n 0, false, cc⟩ from hz)
        have HF4 := Lib.hid (HF3.out.only ho (by have := HFM.out; omega))
        have HB4 := Lib.hid (ho.below HB3.out HGM.out)
        clear hz ho HF3 HM3 HB3
        have b2 := (HM4).out.c2
        have b3 := (HM4).out.c3
        go_wp2_with fail
        go_quiet (first | (go_at_call 15; exact blown_q f _ _ _ _ _ _ HF4.out) | (go_at_call 16; exact count_q f _ _ _ _ _ _ HF4.out))
        go_wp2
        go_roundg (xs.length - (k + 1))
        case measure => have := HK.out; omega
        case rel => exact ⟨k + 1, Lib.hid rfl, by omega, by go_num, Lib.hid ⟨true, max n 0, max n 0, false, cc, (HF4).out, (HM4).out, .inr ⟨rfl, rfl, by omega, by omega, fun h => by cases h⟩, by omega, by omega, below_drew (HB4).out _⟩⟩
      by_cases h2 : kd = 2
      · subst h2
        rcases HA.out with ⟨rfl, rfl⟩ | ⟨rfl, rfl, hl1, hl2, hl3⟩
        · go_wp2_with fail
          refine (spend_free f _ _ _ _ hc1 (by omega) (HF.out.alloc _)).mono ?_
          rintro e w3 ⟨rfl, hz, ho⟩
          have HF3 := Lib.hid (show Fz w3 f 37 ⟨false, ls, false, cc + 1⟩ from hz)
          have HM3 := Lib.hid ((HMM.out.alloc _).only ho (by have := HFM.out; omega))
          have HB3 := Lib.hid (ho.below (HBL.out.alloc HBL.out.size _) HG.out)
          clear hz ho HF HMM HBL
          go_wp2_with fail
          refine (mspend_free m _ _ _ hc1 (by omega) HM3.out).mono ?_
          rintro e w4 ⟨rfl, hz, ho⟩
          have HM4 := Lib.hid (show Fz w4 m 27 ⟨false, lm, false, cc + 1⟩ from hz)
          have HF4 := Lib.hid (HF3.out.only ho (by have := HFM.out; omega))
          have HB4 := Lib.hid (ho.below HB3.out HGM.out)
          clear hz ho HF3 HM3 HB3
          have b2 := (HM4).out.c2
          have b3 := (HM4).out.c3
          go_wp2_with fail
          go_quiet (first | (go_at_call 15; exact blown_q f _ _ _ _ _ _ HF4.out) | (go_at_call 16; exact count_q f _ _ _ _ _ _ HF4.out))
          go_wp2
          go_roundg (xs.length - (k + 1))
          case measure => have := HK.out; omega
          case rel => exact ⟨k + 1, Lib.hid rfl, by omega, by go_num, Lib.hid ⟨false, ls, lm, false, cc + 1, (HF4).out, (HM4).out, .inl ⟨rfl, rfl⟩, by omega, by omega, below_drew (HB4).out _⟩⟩
        · by_cases hl0 : ls = 0
          · subst hl0
            go_wp2_with fail
            refine (spend_no f _ _ _ (HF.out.alloc _)).mono ?_
            rintro e w3 ⟨rfl, hz, ho⟩
            have HF3 := Lib.hid (show Fz w3 f 37 ⟨true, 0, true, cc⟩ from hz)
            have HM3 := Lib.hid ((HMM.out.alloc _).only ho (by have := HFM.out; omega))
            have HB3 := Lib.hid (ho.below (HBL.out.alloc HBL.out.size _) HG.out)
            clear hz ho HF HMM HBL
            go_wp2_with fail
            refine (mspend_no m _ _ _ HM3.out).mono ?_
            rintro e w4 ⟨rfl, hz, ho⟩
            have HM4 := Lib.hid (show Fz w4 m 27 ⟨true, 0, true, cc⟩ from hz)
            have HF4 := Lib.hid (HF3.out.only ho (by have := HFM.out; omega))
            have HB4 := Lib.hid (ho.below HB3.out HGM.out)
            clear hz ho HF3 HM3 HB3
            have b2 := (HM4).out.c2
            have b3 := (HM4).out.c3
            go_wp2_with fail
            go_quiet (first | (go_at_call 15; exact blown_q f _ _ _ _ _ _ HF4.out) | (go_at_call 16; exact count_q f _ _ _ _ _ _ HF4.out))
            go_wp2
            go_roundg (xs.length - (k + 1))
            case measure => have := HK.out; omega
            case rel => exact ⟨k + 1, Lib.hid rfl, by omega, by go_num, Lib.hid ⟨true, 0, 0, true, cc, (HF4).out, (HM4).out, .inr ⟨rfl, rfl, by omega, by omega, fun _ => rfl⟩, by omega, by omega, below_drew (HB4).out _⟩⟩
          · obtain rfl : bl = false := by
              cases bl
              · rfl
              · exact absurd (hl3 rfl) hl0
            clear hl3
            go_wp2_with fail
            refine (spend_some f _ _ _ _ (by omega) hl2 hc1 (by omega) (HF.out.alloc _)).mono ?_
            rintro e w3 ⟨rfl, hz, ho⟩
            have HF3 := Lib.hid (show Fz w3 f 37 ⟨true, ls - 1, false, cc + 1⟩ from hz)
            have HM3 := Lib.hid ((HMM.out.alloc _).only ho (by have := HFM.out; omega))
            have HB3 := Lib.hid (ho.below (HBL.out.alloc HBL.out.size _) HG.out)
            clear hz ho HF HMM HBL
            go_wp2_with fail
            refine (mspend_some m _ _ _ (by omega) hl2 hc1 (by omega) HM3.out).mono ?_
            rintro e w4 ⟨rfl, hz, ho⟩
            have HM4 := Lib.hid (show Fz w4 m 27 ⟨true, ls - 1, false, cc + 1⟩ from hz)
            have HF4 := Lib.hid (HF3.out.only ho (by have := HFM.out; omega))
            have HB4 := Lib.hid (ho.below HB3.out HGM.out)
            clear hz ho HF3 HM3 HB3
            have b2 := (HM4).out.c2
            have b3 := (HM4).out.c3
            go_wp2_with fail
            go_quiet (first | (go_at_call 15; exact blown_q f _ _ _ _ _ _ HF4.out) | (go_at_call 16; exact count_q f _ _ _ _ _ _ HF4.out))
            go_wp2
            go_roundg (xs.length - (k + 1))
            case measure => have := HK.out; omega
            case rel => exact ⟨k + 1, Lib.hid rfl, by omega, by go_num, Lib.hid ⟨true, ls - 1, ls - 1, false, cc + 1, (HF4).out, (HM4).out, .inr ⟨rfl, rfl, by omega, by omega, fun h => by cases h⟩, by omega, by omega, below_drew (HB4).out _⟩⟩
      by_cases h3 : kd = 3
      · subst h3
        go_wp2_with fail
        refine (reset_any f _ _ (HF.out.alloc _)).mono ?_
        rintro e w3 ⟨rfl, hz, ho⟩
        have HF3 := Lib.hid (show Fz w3 f 37 ⟨false, 0, false, cc⟩ from hz)
        have HM3 := Lib.hid ((HMM.out.alloc _).only ho (by have := HFM.out; omega))
        have HB3 := Lib.hid (ho.below (HBL.out.alloc HBL.out.size _) HG.out)
        clear hz ho HF HMM HBL
        go_wp2_with fail
        refine (mreset_any m _ _ HM3.out).mono ?_
        rintro e w4 ⟨rfl, hz, ho⟩
        have HM4 := Lib.hid (show Fz w4 m 27 ⟨false, lm, false, cc⟩ from hz)
        have HF4 := Lib.hid (HF3.out.only ho (by have := HFM.out; omega))
        have HB4 := Lib.hid (ho.below HB3.out HGM.out)
        clear hz ho HF3 HM3 HB3
        have b2 := (HM4).out.c2
        have b3 := (HM4).out.c3
        go_wp2_with fail
        go_quiet (first | (go_at_call 15; exact blown_q f _ _ _ _ _ _ HF4.out) | (go_at_call 16; exact count_q f _ _ _ _ _ _ HF4.out))
        go_wp2
        go_roundg (xs.length - (k + 1))
        case measure => have := HK.out; omega
        case rel => exact ⟨k + 1, Lib.hid rfl, by omega, by go_num, Lib.hid ⟨false, 0, lm, false, cc, (HF4).out, (HM4).out, .inl ⟨rfl, rfl⟩, by omega, by omega, below_drew (HB4).out _⟩⟩
      have q1 : (kd == 1) = false := by rw [beq_eq_false_iff_ne]; exact h1
      have q2 : (kd == 2) = false := by rw [beq_eq_false_iff_ne]; exact h2
      have q3 : (kd == 3) = false := by rw [beq_eq_false_iff_ne]; exact h3
      have HF4 := Lib.hid (HF.out.alloc (.cells #[.int .i64 kd, .int .i64 n] 30))
      have HM4 := Lib.hid (HMM.out.alloc (.cells #[.int .i64 kd, .int .i64 n] 30))
      have HB4 := Lib.hid (HBL.out.alloc HBL.out.size (.cells #[.int .i64 kd, .int .i64 n] 30))
      clear HF HMM HBL
      have b2 := (HM4).out.c2
      have b3 := (HM4).out.c3
      go_wp2_with fail
      go_quiet (first | (go_at_call 15; exact blown_q f _ _ _ _ _ _ HF4.out) | (go_at_call 16; exact count_q f _ _ _ _ _ _ HF4.out))
      go_wp2
      go_roundg (xs.length - (k + 1))
      case measure => have := HK.out; omega
      case rel => exact ⟨k + 1, Lib.hid rfl, by omega, by go_num, Lib.hid ⟨ar, ls, lm, bl, cc, (HF4).out, (HM4).out, HA.out, by omega, by omega, below_drew (HB4).out _⟩⟩
    · go_wp2
      go_ret
      obtain ⟨ar, ls, lm, bl, cc, hf, hm, ha, hc1, hc2, hbl⟩ := HR.out
      exact ⟨rfl, hbl⟩

set_option maxHeartbeats 1000000 in
theorem walk_none (A : Option Addr) (c : Nat) (w : World) : Calls Try.prog 3 #[.slice A 0 c] w (Holds w) := by
  go_enter Try.func3, Try.ntmps3
  go_wp2_with fail
  refine (new_any _).mono ?_
  rintro e w1 ⟨b, rfl, hg, hz, hb⟩
  have HB := Lib.hid hb
  clear hz hb hg
  go_wp2_with fail
  refine (awake_yes _).mono ?_
  rintro e w2 ⟨rfl, hb2⟩
  have HB2 := Lib.hid ((HB.out.alloc HB.out.size _).trans (hb2.mono (Nat.le_trans HB.out.size (by simp))))
  clear hb2 HB
  go_wp2
  refine wp_loop_rounds 1 ?_
  rw [rounds_succ]
  go_wp2
  go_ret
  exact ⟨rfl, HB2.out⟩

theorem t_cells30 : Try.prog.cellsOf 30 = 2 := by kernel_rfl
theorem t_cells3 : Try.prog.cellsOf 3 = 1 := by kernel_rfl
theorem lt_of_cell {w : World} {b k : Nat} {v : Value} (h : w.cell? ⟨b, k, none⟩ = some v) : b < w.heap.size := by
  rcases Nat.lt_or_ge b w.heap.size with hlt | hge
  · exact hlt
  · simp [World.cell?, Array.getElem?_eq_none hge] at h

/-- A list of calls that came in. -/
theorem open_acts {H : Type} {enc : TypeId × Value → H} {W : World} {base : Nat} {v : Value} {d : DataW H} {ps : List MemPlace} (hok : Value.okWide Try.prog W .any base 22 v) (h : DataW.Trod enc Try.prog W 0 (fun _ => true) true 22 v d ps) :
    v = .slice none 0 0 ∨ ∃ (a : Addr) (c : Nat) (xs : List (Int × Int)), v = .slice (some a) xs.length c ∧ xs.length ≤ maxLen ∧
      ∀ i (hi : i < xs.length), W.cell? (a.add (i * 2)) = some (.int .i64 xs[i].1) ∧ W.cell? (a.add (i * 2 + 1)) = some (.int .i64 xs[i].2) ∧ xs[i].2 ≤ 9223372036854775807 := by
  obtain ⟨a, len, cap, rfl⟩ := okWide_slice Try.underlying22 hok
  obtain ⟨fuel, hf⟩ := h
  rcases Go.Deep.open_slice_pairs Try.underlying22 Try.underlying30 t_cells30 rfl rfl t_cells3 t_cells3 hf with ⟨h0, _⟩ | ⟨a', len', cap', m, n, V0, V1, D0, D1, P0, P1, h0, _, hl, hm, hmm, _, hcell⟩
  · exact .inl (by simpa [Value.cells] using h0)
  · have h1 : Value.slice a len cap = .slice (some a') len' cap' := by simpa [Value.cells] using h0
    rw [h1]
    have hm' : m = cap' := by simpa using hmm
    subst hm'
    have each : ∀ i, i < len' → ∃ q : Int × Int, W.cell? (a'.add (i * 2)) = some (.int .i64 q.1) ∧ W.cell? (a'.add (i * 2 + 1)) = some (.int .i64 q.2) ∧ q.2 ≤ 9223372036854775807 := by
      intro i hi
      obtain ⟨c0, c1, t0, t1⟩ := hcell i (by omega)
      obtain ⟨x, e0, _, _⟩ := DataW.trod_int Try.underlying3 t0
      obtain ⟨y, e1, _, wy⟩ := DataW.trod_int Try.underlying3 t1
      have e0' : V0 i = .int .i64 x := by simpa using e0
      have e1' : V1 i = .int .i64 y := by simpa using e1
      rw [e0'] at c0
      rw [e1'] at c1
      exact ⟨(x, y), c0, c1, (bounds_i64 wy).2⟩
    obtain ⟨q, hq⟩ := Go.Deep.choose_lt each
    refine .inr ⟨a', m, (List.range len').map q, by simp, by simp; omega, fun i hi => ?_⟩
    have hi' : i < len' := by simpa using hi
    simpa using hq i hi'

theorem walk (v : Value) (w : World) (h : v = .slice none 0 0 ∨ ∃ (a : Addr) (c : Nat) (xs : List (Int × Int)), v = .slice (some a) xs.length c ∧ xs.length ≤ maxLen ∧
      ∀ i (hi : i < xs.length), w.cell? (a.add (i * 2)) = some (.int .i64 xs[i].1) ∧ w.cell? (a.add (i * 2 + 1)) = some (.int .i64 xs[i].2) ∧ xs[i].2 ≤ 9223372036854775807) :
    Calls Try.prog 3 #[v] w (Holds w) := by
  rcases h with rfl | ⟨a, c, xs, rfl, hx, hv⟩
  · exact walk_none none 0 w
  · by_cases h5 : 500 < xs.length
    · exact walk_long xs.length c (some a) w h5 hx
    · rcases Nat.eq_zero_or_pos xs.length with h0 | h0
      · rw [h0]
        exact walk_none (some a) c w
      · obtain ⟨b, off, spot⟩ := a
        obtain ⟨h1, _, _⟩ := hv 0 h0
        have hspot : spot = none := by simpa [Addr.add] using World.cell?_spot h1
        subst hspot
        have hadd : ∀ i, (⟨b, off, none⟩ : Addr).add i = ⟨b, off + i, none⟩ := fun i => by unfold Addr.add; split <;> simp_all
        rw [hadd] at h1
        refine walk_main b off c xs w (by omega) h0 (lt_of_cell h1) (fun k hk => ?_)
        have h2 := hv k hk
        rw [hadd, hadd] at h2
        simpa [Nat.add_assoc] using h2

/-! From the walk to the given row. -/
set_option maxRecDepth 100000 in
theorem lifted (os : Os) (started : os.Started) (H : Type) (enc : TypeId × Value → H) :
    ReturnsInHanded {} Try.checked os 3 .any (Rows.fusePlaysSpec.pre6 enc Try.prog Try.f3 Rows.fusePlaysRow.domain false) (Rows.fusePlaysSpec.post enc Try.prog Try.f3 false true false false) := by
  refine returnsInHanded_of_change (C := Try.checked) t_own started (by kernel_rfl) Try.func3
    (ChangeSpec.witness6 (enc := enc) (C := Try.checked) false ⟨#[], #[.slice none 0 0], []⟩ 8 (by kernel_rfl) (by kernel_rfl) (by kernel_rfl) (by kernel_rfl)) ?_
  intro W base args ds gs before hval0 hW hcnd _
  have hval : ∀ (j : Nat) t v, Try.f3.params[j]? = some t → args[j]? = some v → Value.okWide Try.prog W .any base t v := hval0
  have hW' := hW
  obtain ⟨p, q, hA0, hV, rfl, hfz, hnd⟩ := hW
  have hA : DataW.TrodAll enc Try.prog W 0 (fun _ => true) true Try.f3.params.toList args.toList ds p := hA0
  rw [Try.params3] at hA hval
  obtain ⟨v0, vs0, d0, ds0, p0, q0, hargs, rfl, rfl, h0, r0⟩ := trodAll_cons hA
  obtain ⟨rfl, rfl, rfl⟩ := trodAll_nil r0
  obtain rfl : args = #[v0] := by cases args; simp_all
  
  refine (walk v0 W (open_acts (hval 0 22 v0 rfl rfl) h0)).mono fun e W' ⟨he, hb⟩ => ?_
  subst he
  exact ⟨_, rfl, post_of_holds hW' (by kernel_rfl) rfl (by rw [Try.params3]; exact fun t ht => params_ok t (by simp at ht; rcases ht with rfl <;> simp)) ⟨rfl, rfl, rfl⟩ hb⟩

/-- The given statement. -/
theorem proved : Rows.FusePlaysSaid :=
  OpenClaim.holds_of_wide 3 Try.f3 rfl rfl rfl rfl rfl rfl rfl ⟨rfl, rfl, rfl, rfl, rfl⟩ rfl rfl rfl rfl rfl (by kernel_rfl) Try.func3 (by kernel_rfl)
    (of_decide_eq_true (by kernel_rfl)) (by unfold Func.isWrapper; first | (rw [if_pos (by decide +kernel)]; kernel_rfl) | (rw [if_neg (by decide +kernel)]; exact ⟨rfl, rfl⟩))
    (fun os started H enc _ => lifted os started H enc)
#print axioms proved
end Go.Proofs.Ytebeeeillflflaa.fusePlays
