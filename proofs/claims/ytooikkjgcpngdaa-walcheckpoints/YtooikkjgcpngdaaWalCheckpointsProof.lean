/-
  switchback's WalCheckpoints: a checkpoint's record is the only one, in a generation more; as many more as a fresh log's less one can be appended then. For every input the call returns true, and each argument reads afterwards as it read before. No condition.
-/
import Derived.Test.YtooikkjgcpngdaaLift
namespace Go.Proofs.Ytooikkjgcpngdaa.walCheckpoints
open Go.ChangeShapes Go.WideShapes Go.ChangeAt Go.RowKit
open Fr (Rec secB valL lenV)

set_option maxRecDepth 100000 in
set_option maxHeartbeats 4000000 in
theorem walk_long0 (n q : Int) (s : ByteArray) (w : World) (h1 : n < 0) : Calls Try.prog 5 #[.int .i64 n, .int .i64 q, .string s] w (Holds w) := by
  have e0 : decide (n < 0) = true := by simp; omega
  go_enter Try.func5, Try.ntmps5
  go_wp2_with fail
  refine (new_any _).mono ?_
  rintro e w1 ⟨f, rfl, hg, hz, hb⟩
  have HB1 := Lib.hid hb
  have HZ1 := Lib.hid hz
  have HG := Lib.hid hg
  clear hz hb hg
  go_wp2_with fail
  refine (awake_yes _).mono ?_
  rintro e w2 ⟨rfl, hb⟩
  have HB2 := Lib.hid (HB1.out.trans (hb.mono HB1.out.size))
  have HZ2 := Lib.hid (HZ1.out.under hb HZ1.out.lt)
  clear hb HZ1
  go_wp2_with fail
  refine (awake_yes _).mono ?_
  rintro e w3 ⟨rfl, hb⟩
  have HB3 := Lib.hid (HB2.out.trans (hb.mono HB2.out.size))
  clear hb
  go_wp2
  go_ret
  exact ⟨rfl, HB3.out⟩

set_option maxRecDepth 100000 in
set_option maxHeartbeats 4000000 in
theorem walk_long1 (n q : Int) (s : ByteArray) (w : World) (h1 : 0 ≤ n) (h2 : 30 < n) : Calls Try.prog 5 #[.int .i64 n, .int .i64 q, .string s] w (Holds w) := by
  have e0 : decide (n < 0) = false := by simp; omega
  have e1 : decide (30 < n) = true := by simp; omega
  go_enter Try.func5, Try.ntmps5
  go_wp2_with fail
  refine (new_any _).mono ?_
  rintro e w1 ⟨f, rfl, hg, hz, hb⟩
  have HB1 := Lib.hid hb
  have HZ1 := Lib.hid hz
  have HG := Lib.hid hg
  clear hz hb hg
  go_wp2_with fail
  refine (awake_yes _).mono ?_
  rintro e w2 ⟨rfl, hb⟩
  have HB2 := Lib.hid (HB1.out.trans (hb.mono HB1.out.size))
  have HZ2 := Lib.hid (HZ1.out.under hb HZ1.out.lt)
  clear hb HZ1
  go_wp2_with fail
  refine (awake_yes _).mono ?_
  rintro e w3 ⟨rfl, hb⟩
  have HB3 := Lib.hid (HB2.out.trans (hb.mono HB2.out.size))
  clear hb
  go_wp2
  go_ret
  exact ⟨rfl, HB3.out⟩

set_option maxRecDepth 100000 in
set_option maxHeartbeats 4000000 in
theorem walk_long2 (n q : Int) (s : ByteArray) (w : World) (h1 : 0 ≤ n) (h2 : n ≤ 30) (h3 : q < 0) : Calls Try.prog 5 #[.int .i64 n, .int .i64 q, .string s] w (Holds w) := by
  have e0 : decide (n < 0) = false := by simp; omega
  have e1 : decide (30 < n) = false := by simp; omega
  have e2 : decide (q < 0) = true := by simp; omega
  go_enter Try.func5, Try.ntmps5
  go_wp2_with fail
  refine (new_any _).mono ?_
  rintro e w1 ⟨f, rfl, hg, hz, hb⟩
  have HB1 := Lib.hid hb
  have HZ1 := Lib.hid hz
  have HG := Lib.hid hg
  clear hz hb hg
  go_wp2_with fail
  refine (awake_yes _).mono ?_
  rintro e w2 ⟨rfl, hb⟩
  have HB2 := Lib.hid (HB1.out.trans (hb.mono HB1.out.size))
  have HZ2 := Lib.hid (HZ1.out.under hb HZ1.out.lt)
  clear hb HZ1
  go_wp2_with fail
  refine (awake_yes _).mono ?_
  rintro e w3 ⟨rfl, hb⟩
  have HB3 := Lib.hid (HB2.out.trans (hb.mono HB2.out.size))
  clear hb
  go_wp2
  go_ret
  exact ⟨rfl, HB3.out⟩

set_option maxRecDepth 100000 in
set_option maxHeartbeats 4000000 in
theorem walk_long3 (n q : Int) (s : ByteArray) (w : World) (h1 : 0 ≤ n) (h2 : n ≤ 30) (h3 : 0 ≤ q) (h4 : 30 < q) : Calls Try.prog 5 #[.int .i64 n, .int .i64 q, .string s] w (Holds w) := by
  have e0 : decide (n < 0) = false := by simp; omega
  have e1 : decide (30 < n) = false := by simp; omega
  have e2 : decide (q < 0) = false := by simp; omega
  have e3 : decide (30 < q) = true := by simp; omega
  go_enter Try.func5, Try.ntmps5
  go_wp2_with fail
  refine (new_any _).mono ?_
  rintro e w1 ⟨f, rfl, hg, hz, hb⟩
  have HB1 := Lib.hid hb
  have HZ1 := Lib.hid hz
  have HG := Lib.hid hg
  clear hz hb hg
  go_wp2_with fail
  refine (awake_yes _).mono ?_
  rintro e w2 ⟨rfl, hb⟩
  have HB2 := Lib.hid (HB1.out.trans (hb.mono HB1.out.size))
  have HZ2 := Lib.hid (HZ1.out.under hb HZ1.out.lt)
  clear hb HZ1
  go_wp2_with fail
  refine (awake_yes _).mono ?_
  rintro e w3 ⟨rfl, hb⟩
  have HB3 := Lib.hid (HB2.out.trans (hb.mono HB2.out.size))
  clear hb
  go_wp2
  go_ret
  exact ⟨rfl, HB3.out⟩

set_option maxRecDepth 100000 in
set_option maxHeartbeats 4000000 in
theorem walk_long4 (n q : Int) (s : ByteArray) (w : World) (hs : s.size ≤ maxLen) (h1 : 0 ≤ n) (h2 : n ≤ 30) (h3 : 0 ≤ q) (h4 : q ≤ 30) (h5 : 114 < s.size) : Calls Try.prog 5 #[.int .i64 n, .int .i64 q, .string s] w (Holds w) := by
  unfold maxLen at hs
  have e0 : decide (n < 0) = false := by simp; omega
  have e1 : decide (30 < n) = false := by simp; omega
  have e2 : decide (q < 0) = false := by simp; omega
  have e3 : decide (30 < q) = false := by simp; omega
  have e4 : decide (114 < (s.size : Int)) = true := by simp; omega
  go_enter Try.func5, Try.ntmps5
  go_wp2_with fail
  refine (new_any _).mono ?_
  rintro e w1 ⟨f, rfl, hg, hz, hb⟩
  have HB1 := Lib.hid hb
  have HZ1 := Lib.hid hz
  have HG := Lib.hid hg
  clear hz hb hg
  go_wp2_with fail
  refine (awake_yes _).mono ?_
  rintro e w2 ⟨rfl, hb⟩
  have HB2 := Lib.hid (HB1.out.trans (hb.mono HB1.out.size))
  have HZ2 := Lib.hid (HZ1.out.under hb HZ1.out.lt)
  clear hb HZ1
  go_wp2_with fail
  refine (awake_yes _).mono ?_
  rintro e w3 ⟨rfl, hb⟩
  have HB3 := Lib.hid (HB2.out.trans (hb.mono HB2.out.size))
  clear hb
  go_wp2
  go_ret
  exact ⟨rfl, HB3.out⟩

theorem own_one {B : Nat} (w : World) (s : ByteArray) (hB : B ≤ w.heap.size) : (w.alloc (.cells #[.string s] 9)).ownsRow B 9 1 (.slice (some ⟨w.heap.size, 0, none⟩) 1 1) 1 (strs [s]) :=
  ⟨rfl, .inr ⟨w.heap.size, 1, #[.string s], rfl, hB, heap_alloc_new w _, by omega, by unfold maxLen; omega, rfl, rfl⟩⟩
theorem room_max (N : Nat) (c : Nat) (h : c = min N 7) : (((16 / 2 : Nat) : Int) - 1 - (c : Int)) = max (7 - (N : Int)) 0 := by omega

set_option maxRecDepth 100000 in
set_option maxHeartbeats 4000000 in
theorem walk_main (n q : Int) (s : ByteArray) (w : World) (h1 : 0 ≤ n) (h2 : n ≤ 30) (h3 : 0 ≤ q) (h4 : q ≤ 30) (h5 : s.size ≤ 114) : Calls Try.prog 5 #[.int .i64 n, .int .i64 q, .string s] w (Holds w) := by
  have e0 : decide (n < 0) = false := by simp; omega
  have e1 : decide (30 < n) = false := by simp; omega
  have e2 : decide (q < 0) = false := by simp; omega
  have e3 : decide (30 < q) = false := by simp; omega
  have e4 : decide (114 < (s.size : Int)) = false := by simp; omega
  obtain ⟨N, rfl⟩ : ∃ N : Nat, n = (N : Int) := ⟨n.toNat, by omega⟩
  obtain ⟨M, rfl⟩ : ∃ M : Nat, q = (M : Int) := ⟨q.toNat, by omega⟩
  obtain ⟨i9, hi9, hz90, hz91, hz92⟩ := info_parts Tinfo9
  go_enter Try.func5, Try.ntmps5
  go_wp2_with fail
  refine (new_any _).mono ?_
  rintro e w1 ⟨f, rfl, hg, hz, hb⟩
  have HB1 := Lib.hid hb
  have HZ1 := Lib.hid hz
  have HG := Lib.hid hg
  clear hz hb hg
  go_wp2_with fail
  refine (awake_yes _).mono ?_
  rintro e w2 ⟨rfl, hb⟩
  have HB2 := Lib.hid (HB1.out.trans (hb.mono HB1.out.size))
  have HZ2 := Lib.hid (HZ1.out.under hb HZ1.out.lt)
  clear hb HZ1
  go_wp2_with fail
  refine (new_D (B := w.heap.size) 128 16 128 16 (by decide) (by decide) HZ2.out new_good (Nat.le_of_eq HG.out) HB2.out.size).mono ?_
  rintro e w3 ⟨d, P3, rfl, hd, hb, hp⟩
  have HD3 := Lib.hid hd
  have HB3 := Lib.hid (HB2.out.trans (hb.mono HB2.out.size))
  clear hd hb hp HZ2
  go_wp2_with fail
  refine (st_fresh HD3.out (by omega) (by omega) (by omega) (by omega) HB3.out.size).mono ?_
  rintro e w4 ⟨U4, v, ra, rc, rfl, hs, hb⟩
  have H4 := Lib.hid hs
  have HB4 := Lib.hid (HB3.out.trans hb)
  clear hs hb
  go_wp2
  go_loopg [60] N (fun g i wr => ∃ (k : Nat) (U : Nat → Prop) (l : Lg), Hid (g = N - k) ∧ k ≤ N ∧ i = .int .i64 (k : Int) ∧ Hid (l.gen = 1 ∧ l.list.length = min k 7) ∧ Hid (St wr w.heap.size U d f v 128 16 l (2 + 2 * k)) ∧ Hid (Below w.heap.size w wr))
  case atStart => exact ⟨0, U4, _, Lib.hid rfl, Nat.zero_le _, rfl, Lib.hid ⟨rfl, rfl⟩, H4, HB4⟩
  case round =>
    obtain ⟨k, U, l, HGG, hk, rfl, HGN, HS, HBL⟩ := hrel
    by_cases hlt : k < N
    · have hd : decide ((k : Int) < (N : Int)) = true := by simp; omega
      go_wp2_with fail
      refine (st_append ⟨#[120]⟩ (by decide) HS.out (by omega) HBL.out.size).mono ?_
      rintro e w5 ⟨rfl, U5, hs, _, hk5⟩
      have H5 := Lib.hid hs
      have HB5 := Lib.hid (HBL.out.trans (HS.out.below hk5 HBL.out.size))
      clear hs hk5
      go_wp2
      go_roundg (N - (k + 1))
      case measure => have := HGG.out; omega
      case rel =>
        refine ⟨k + 1, U5, _, Lib.hid rfl, by omega, by go_num, Lib.hid ?_, H5, HB5⟩
        obtain ⟨g1, g2⟩ := HGN.out
        by_cases h7 : l.list.length + 1 < 16 / 2
        · rw [(acode0 (z := 128) (m := 16) (l := l) (t := ⟨#[120]⟩) (by decide) h7).2]
          exact ⟨g1, by simp only [List.length_append, List.length_singleton]; omega⟩
        · rw [(acode3 (z := 128) (m := 16) (l := l) (t := ⟨#[120]⟩) (by decide) (by omega)).2]
          exact ⟨g1, by omega⟩
    · have hd : decide ((k : Int) < (N : Int)) = false := by simp; omega
      obtain rfl : k = N := by omega
      have HR := Lib.hid (st_room HS.out)
      rw [room_max k l.list.length HGN.out.2] at HR
      go_wp2_with fail
      refine HR.out.mono ?_
      rintro e w6 ⟨rfl, ha⟩
      have H6 := Lib.hid (HS.out.alike ha)
      have HB6 := Lib.hid (below_alike HBL.out ha)
      clear ha
      go_wp2_with fail
      refine (st_chk0 s H6.out (by omega) HB6.out.size (by omega) (by rw [HGN.out.1]; omega)).mono ?_
      rintro e w7 ⟨rfl, U7, hs, _, hk7⟩
      have H7 := Lib.hid hs
      have HB7 := Lib.hid (HB6.out.trans (H6.out.below hk7 HB6.out.size))
      clear hs hk7
      have HGE := Lib.hid (st_gen H7.out)
      rw [show (((⟨1 - l.area, l.gen + 1, [s], false⟩ : Lg).gen : Nat) : Int) = 2 from by show ((l.gen + 1 : Nat) : Int) = 2; rw [HGN.out.1]; rfl] at HGE
      go_wp2_with fail
      refine HGE.out.mono ?_
      rintro e w' ⟨rfl, rfl⟩
      have HRE := Lib.hid (st_room H7.out)
      rw [show (((16 / 2 : Nat) : Int) - 1 - ((⟨1 - l.area, l.gen + 1, [s], false⟩ : Lg).list.length : Int)) = 6 from rfl] at HRE
      go_wp2_with fail
      refine HRE.out.mono ?_
      rintro e w8 ⟨rfl, ha⟩
      have H8 := Lib.hid (H7.out.alike ha)
      have HB8 := Lib.hid (below_alike HB7.out ha)
      clear ha
      go_wp2
      go_loopg [12, 90] M (fun g wv i wr => ∃ (j gb cap L : Nat) (U : Nat → Prop) (l' : Lg), Hid (g = M - j) ∧ j ≤ M ∧ L ≤ 7 ∧ wv = .slice (some ⟨gb, 0, none⟩) L cap ∧ i = .int .i64 (j : Int) ∧ Hid (l'.list.length = L ∧ L = min j 6 + 1) ∧ Hid (wr.ownsRow w.heap.size 9 1 (.slice (some ⟨gb, 0, none⟩) L cap) L (strs l'.list)) ∧ Hid (¬ U gb ∧ gb < wr.heap.size) ∧ Hid (St wr w.heap.size U d f v 128 16 l' (1000 + 2 * j)) ∧ Hid (Below w.heap.size w wr))
      case atStart =>
        have hb8 := HB8.out.size
        refine ⟨0, w8.heap.size, 1, 1, U7, _, Lib.hid rfl, Nat.zero_le _, by omega, rfl, rfl, Lib.hid ⟨rfl, rfl⟩, Lib.hid (own_one w8 s hb8), Lib.hid ⟨fun hu => by have := (H8.out.lt _ hu).2; omega, by simp⟩, Lib.hid ((H8.out.under ((Below.refl _ _).alloc (Nat.le_refl _) _)).more (by omega)), Lib.hid (HB8.out.alloc hb8 _)⟩
      case round =>
        obtain ⟨j, gb, cap, L, U, l', HGJ, hj, hL, rfl, rfl, HLL, HOW, HNU, HS2, HBL2⟩ := hrel
        by_cases hlt2 : j < M
        · have hd2 : decide ((j : Int) < (M : Int)) = true := by simp; omega
          have keep : ∀ w9, Kept U wr w9 → w9.ownsRow w.heap.size 9 1 (.slice (some ⟨gb, 0, none⟩) L cap) L (strs l'.list) := fun w9 hk => own_other HOW.out fun g hg => by
            obtain rfl : gb = g := by simpa [Value.ownBlock] using hg
            exact hk.block gb HNU.out.2 HNU.out.1
          have HKP := Lib.hid keep
          clear keep
          by_cases h6 : j < 6
          · have e6 : decide ((j : Int) < 6) = true := by simp; omega
            have hL7 : L + 1 < 8 := by have := HLL.out.2; omega
            go_wp2_with fail
            refine (st_app0 ⟨#[121]⟩ HS2.out (by omega) HBL2.out.size (by decide) (by rw [HLL.out.1]; omega)).mono ?_
            rintro e w9 ⟨rfl, U9, hs, hu9, hk9⟩
            have H9 := Lib.hid hs
            have HB9 := Lib.hid (HBL2.out.trans (HS2.out.below hk9 HBL2.out.size))
            have HO9 := Lib.hid (HKP.out w9 hk9)
            have HN9 : Hid (¬ U9 gb ∧ gb < w9.heap.size) := Lib.hid ⟨fun hu => (hu9 gb hu).elim HNU.out.1 (fun h => by have := HNU.out.2; omega), Nat.lt_of_lt_of_le HNU.out.2 hk9.size⟩
            clear hs hk9 hu9
            go_wp2_with (at_builtin; go_must (refine wpList_append_lies _ rfl (.tmp 110) (.tmp 111) 36 rfl w.heap.size 9 i9 (.string ⟨#[]⟩) 1 16 Try.underlying36 hi9 hz90 hz91 hz92 rfl (by decide) (.slice (some ⟨gb, 0, none⟩) L cap) L (strs l'.list) rfl (HO9.out.alloc _) ⟨w9.heap.size, 0, none⟩ 1 1 [.string ⟨#[121]⟩] rfl rfl (cell_one_new _ _ _) (by simp [Value.oneCell']) (by decide) (by unfold maxLen; omega) (by omega) (by have := HB9.out.size; simp; omega) _ rfl ?_); intro g3 cap3 w3 hown3 hgr3 hor3 hlt3; have HO3 := Lib.hid hown3; have HN3 := Lib.hid (show ¬ U9 g3 ∧ g3 < w3.heap.size from ⟨fun hu => hor3.elim (fun h => by obtain rfl : gb = g3 := (by simpa [Value.ownBlock] using h); exact HN9.out.1 hu) (fun h => by have h4 := (H9.out.lt _ hu).2; rw [h] at h4; simp at h4; omega), hlt3⟩); have H3 := Lib.hid ((H9.out.under ((Below.refl _ _).alloc (Nat.le_refl _) _)).stays hgr3.size (fun k hu hk => hgr3.block k hk (fun e => HN9.out.1 (by obtain rfl : k = gb := (by simpa [Value.ownBlock] using e); exact hu)))); have HB3' := Lib.hid (below_grown (HB9.out.alloc HB9.out.size _) hgr3 (fun k hk => own_base HO9.out hk) (Nat.le_refl _)); clear hown3 hgr3 hor3 hlt3)
            go_roundg (M - (j + 1))
            case measure => have := HGJ.out; omega
            case rel =>
              refine ⟨j + 1, g3, cap3, L + 1, U9, _, Lib.hid rfl, by omega, by omega, rfl, by go_num, Lib.hid ⟨by simp only [List.length_append, HLL.out.1, List.length_singleton], by have := HLL.out.2; omega⟩, Lib.hid ?_, HN3, Lib.hid (H3.out.more (by omega)), HB3'⟩
              rw [strs_snoc]
              exact HO3.out
          · have e6 : decide ((j : Int) < 6) = false := by simp; omega
            have hL7 : 7 ≤ L := by have := HLL.out.2; omega
            go_wp2_with fail
            refine (st_app3 ⟨#[121]⟩ HS2.out (by omega) HBL2.out.size (by decide) (by rw [HLL.out.1]; omega)).mono ?_
            rintro e w9 ⟨rfl, U9, hs, hu9, hk9⟩
            have H9 := Lib.hid hs
            have HB9 := Lib.hid (HBL2.out.trans (HS2.out.below hk9 HBL2.out.size))
            have HO9 := Lib.hid (HKP.out w9 hk9)
            have HN9 : Hid (¬ U9 gb ∧ gb < w9.heap.size) := Lib.hid ⟨fun hu => (hu9 gb hu).elim HNU.out.1 (fun h => by have := HNU.out.2; omega), Nat.lt_of_lt_of_le HNU.out.2 hk9.size⟩
            clear hs hk9 hu9
            go_wp2
            go_roundg (M - (j + 1))
            case measure => have := HGJ.out; omega
            case rel => exact ⟨j + 1, gb, cap, L, U9, _, Lib.hid rfl, by omega, by omega, rfl, by go_num, Lib.hid ⟨HLL.out.1, by have := HLL.out.2; omega⟩, HO9, HN9, Lib.hid (H9.out.more (by omega)), HB9⟩
        · have hd2 : decide ((j : Int) < (M : Int)) = false := by simp; omega
          go_wp2_with fail
          refine (st_open HS2.out (by omega) HBL2.out.size).mono ?_
          rintro e w9 ⟨U9, v9, ra9, rc9, rfl, _, _, ho, _, _, hk9⟩
          have HB9 := Lib.hid (HBL2.out.trans (HS2.out.below hk9 HBL2.out.size))
          have HV9 := Lib.hid (Vals.of_own ho)
          have HO9 : Hid (Vals w9 (.slice (some ⟨gb, 0, none⟩) L cap) (strs l'.list)) := Lib.hid (Vals.of_own (own_other HOW.out fun g hg => by
            obtain rfl : gb = g := by simpa [Value.ownBlock] using hg
            exact hk9.block gb HNU.out.2 HNU.out.1))
          clear ho hk9
          have HSM := Lib.hid (same_any l'.list l'.list _ _ w9 HV9.out HO9.out (by rw [HLL.out.1]; omega))
          rw [same_self] at HSM
          go_wp2_with (go_at_call 23; refine HSM.out.mono ?_; rintro e w10 ⟨rfl, hb⟩; have HB10 := Lib.hid (HB9.out.trans (hb.mono HB9.out.size)); clear hb)
          go_ret
          exact ⟨rfl, HB10.out⟩

theorem walk (n q : Int) (s : ByteArray) (w : World) (hs : s.size ≤ maxLen) : Calls Try.prog 5 #[.int .i64 n, .int .i64 q, .string s] w (Holds w) := by
  by_cases h1 : n < 0
  · exact walk_long0 n q s w h1
  by_cases h2 : 30 < n
  · exact walk_long1 n q s w (by omega) h2
  by_cases h3 : q < 0
  · exact walk_long2 n q s w (by omega) (by omega) h3
  by_cases h4 : 30 < q
  · exact walk_long3 n q s w (by omega) (by omega) (by omega) h4
  by_cases h5 : 114 < s.size
  · exact walk_long4 n q s w hs (by omega) (by omega) (by omega) (by omega) h5
  exact walk_main n q s w (by omega) (by omega) (by omega) (by omega) (by omega)

/-! From the walk to the given row. -/
set_option maxRecDepth 100000 in
theorem lifted (os : Os) (started : os.Started) (H : Type) (enc : TypeId × Value → H) :
    ReturnsInHanded {} Try.checked os 5 .any (Rows.walCheckpointsSpec.pre6 enc Try.prog Try.f5 Rows.walCheckpointsRow.domain false) (Rows.walCheckpointsSpec.post enc Try.prog Try.f5 false true false false) := by
  refine returnsInHanded_of_change (C := Try.checked) t_own started (by kernel_rfl) Try.func5
    (ChangeSpec.witness6 (enc := enc) (C := Try.checked) false ⟨#[], #[.int .i64 0, .int .i64 0, .string ⟨#[]⟩], []⟩ 8 (by kernel_rfl) (by kernel_rfl) (by kernel_rfl) (by kernel_rfl)) ?_
  intro W base args ds gs before hval0 hW hcnd _
  have hval : ∀ (j : Nat) t v, Try.f5.params[j]? = some t → args[j]? = some v → Value.okWide Try.prog W .any base t v := hval0
  have hW' := hW
  obtain ⟨p, q, hA0, hV, rfl, hfz, hnd⟩ := hW
  have hA : DataW.TrodAll enc Try.prog W 0 (fun _ => true) true Try.f5.params.toList args.toList ds p := hA0
  rw [Try.params5] at hA hval
  obtain ⟨v0, vs0, d0, ds0, p0, q0, hargs, rfl, rfl, h0, r0⟩ := trodAll_cons hA
  obtain ⟨v1, vs1, d1, ds1, p1, q1, rfl, rfl, rfl, h1, r1⟩ := trodAll_cons r0
  obtain ⟨v2, vs2, d2, ds2, p2, q2, rfl, rfl, rfl, h2, r2⟩ := trodAll_cons r1
  obtain ⟨rfl, rfl, rfl⟩ := trodAll_nil r2
  obtain rfl : args = #[v0, v1, v2] := by cases args; simp_all
  obtain ⟨n, rfl, rfl, rfl, hn⟩ := open_int Try.underlying3 (hval 0 3 v0 rfl rfl) h0
  obtain ⟨q, rfl, rfl, rfl, hq⟩ := open_int Try.underlying3 (hval 1 3 v1 rfl rfl) h1
  obtain ⟨s, rfl, rfl, rfl, hs⟩ := Go.ChangeMaps.open_string Try.underlying9 (hval 2 9 v2 rfl rfl) h2
  refine (walk n q s W hs).mono fun e W' ⟨he, hb⟩ => ?_
  subst he
  exact ⟨_, rfl, post_of_holds hW' (by kernel_rfl) rfl (by rw [Try.params5]; exact fun t ht => params_ok t (by simp at ht; rcases ht with rfl | rfl <;> simp)) ⟨rfl, rfl, rfl⟩ hb⟩

/-- The given statement. -/
theorem proved : Rows.WalCheckpointsSaid :=
  OpenClaim.holds_of_wide 5 Try.f5 rfl rfl rfl rfl rfl rfl rfl ⟨rfl, rfl, rfl, rfl, rfl⟩ rfl rfl rfl rfl rfl (by kernel_rfl) Try.func5 (by kernel_rfl)
    (of_decide_eq_true (by kernel_rfl)) (by unfold Func.isWrapper; first | (rw [if_pos (by decide +kernel)]; kernel_rfl) | (rw [if_neg (by decide +kernel)]; exact ⟨rfl, rfl⟩))
    (fun os started H enc _ => lifted os started H enc)
#print axioms proved
end Go.Proofs.Ytooikkjgcpngdaa.walCheckpoints

