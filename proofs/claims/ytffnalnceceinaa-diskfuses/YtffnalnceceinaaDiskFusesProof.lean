/-
  switchback's DiskFuses: what the fuse doesn't bear changes nothing; a crash resets it. For every input the call returns true, and each argument reads afterwards as it read before. No condition.
-/
import Derived.Test.YtffnalnceceinaaLift
import Derived.Deep.RegionHeld3
namespace Go.Proofs.Ytffnalnceceinaa.diskFuses
open Go.ChangeShapes Go.WideShapes Go.ChangeAt Go.RowKit

theorem under_drew {wa w7 : World} (h : Below wa.drew.heap.size wa.drew w7) : Below wa.heap.size wa w7 := ⟨h.os, h.tape, h.output, h.size, h.block⟩

/-- The fuse, armed with n, behind j calls. -/
def fuAt (n j : Nat) : Fu := ⟨true, ((n - j : Nat) : Int), decide (n < j), ((min j n : Nat) : Int)⟩
theorem fuAt_spent (n j : Nat) : (fuAt n j).spent = fuAt n (j + 1) := by
  by_cases h : j < n
  · have h1 : (fuAt n j).ok = true := by simp [fuAt, Fu.ok]; omega
    rw [Fu.spent, h1]
    simp [fuAt]
    omega
  · have h1 : (fuAt n j).ok = false := by simp [fuAt, Fu.ok]; omega
    rw [Fu.spent, h1]
    simp [fuAt]
    omega
theorem fuAt_ok (n j : Nat) : (fuAt n j).ok = decide (j < n) := by
  rw [Bool.eq_iff_iff]
  simp [fuAt, Fu.ok]
  omega
theorem fuAt_start (n : Nat) : (Fu.mk false 0 false 0).arm n = fuAt n 0 := by
  simp [Fu.arm, fuAt]

/-- The disk in the loop: j calls were in range. -/
def Loop (w0 w : World) (d f n j k : Nat) : Prop := ∃ (P : Nat → Prop) (s : Dk), Dsk w w0.heap.size P d f s (fuAt n j) ∧ s.now.length = 8 ∧ s.size = 128 ∧ s.opn.length ≤ k ∧ j ≤ k ∧ Below w0.heap.size w0 w

/-- What a write answers, and what is read behind it. -/
theorem out_of {s : Dk} {fu : Fu} {i : Int} {b : ByteArray} (h : i < 0 ∨ 7 < i) (h8 : s.now.length = 8) : wcode s fu i b = 1 ∧ wstate s fu i b = s ∧ wfuse s fu i b = fu := by
  have hb : bad s i b = true := by simp [bad, h8]; omega
  simp [wcode, wstate, wfuse, hb]
theorem in_borne {s : Dk} {fu : Fu} {i : Int} {b : ByteArray} (h : 0 ≤ i ∧ i ≤ 7) (h8 : s.now.length = 8) (hb : b.size = s.size) (ho : fu.ok = true) : wcode s fu i b = 0 ∧ wfuse s fu i b = fu.spent ∧ rstr (wstate s fu i b) i = b := by
  have hb : bad s i b = false := by simp [bad, h8, hb]; omega
  refine ⟨by simp [wcode, hb, ho], by simp [wfuse, hb], ?_⟩
  have e : wstate s fu i b = s.write i.toNat b := by simp [wstate, hb, ho]
  have hn : ¬ (i < 0 ∨ ((s.write i.toNat b).now.length : Int) ≤ i) := by simp [Dk.write, h8]; omega
  rw [e, rstr, if_neg hn]
  have hl : i.toNat < s.now.length := by omega
  simp [Dk.write, hl]
theorem in_halted {s : Dk} {fu : Fu} {i : Int} {b : ByteArray} (h : 0 ≤ i ∧ i ≤ 7) (h8 : s.now.length = 8) (hb : b.size = s.size) (ho : fu.ok = false) : wcode s fu i b = 2 ∧ wfuse s fu i b = fu.spent ∧ wstate s fu i b = s := by
  have hb : bad s i b = false := by simp [bad, h8, hb]; omega
  simp [wcode, wstate, wfuse, hb, ho]

set_option maxRecDepth 20000 in
set_option maxHeartbeats 4000000 in
theorem walk_main (b off cp : Nat) (xs : List Ac) (n : Nat) (w : World) (hl : xs.length ≤ 100) (hp : 0 < xs.length) (hb : b < w.heap.size) (hn : n ≤ 200)
    (hv : ∀ i (hi : i < xs.length), Lies w b (off + i * 5) xs[i]) : Calls Try.prog 6 #[.slice (some ⟨b, off, none⟩) xs.length cp, .int .i64 (n : Int)] w (Holds w) := by
  have e1 : decide (100 < (xs.length : Int)) = false := by simp; omega
  have e2 : decide ((n : Int) < 0) = false := by simp
  have e3 : decide (200 < (n : Int)) = false := by simp; omega
  have HV := Lib.hid hv
  clear hv
  go_enter Try.func6, Try.ntmps6
  go_wp2_with fail
  refine (new_any _).mono ?_
  rintro e w1 ⟨f, rfl, hg, hz, hb⟩
  have HB1 := Lib.hid hb
  have HZ1 := Lib.hid hz
  have HG := Lib.hid hg
  clear hz hb hg
  go_wp2_with fail
  refine (awake_yes _).mono ?_
  rintro e w2 ⟨rfl, hb⟩
  have HZ2 := Lib.hid (HZ1.out.under hb HZ1.out.lt)
  have HB2 := Lib.hid (HB1.out.trans (hb.mono HB1.out.size))
  clear hb HZ1
  go_wp2_with fail
  refine (new_D (B := w.heap.size) 128 8 128 8 (by decide) (by decide) HZ2.out new_good (Nat.le_of_eq HG.out) HB2.out.size).mono ?_
  rintro e w3 ⟨d, P3, rfl, hd, hb, hp⟩
  have HD3 := Lib.hid hd
  have HB3 := Lib.hid (HB2.out.trans (hb.mono HB2.out.size))
  clear hd hb hp HZ2
  go_wp2_with fail
  refine (arm_any f n _ _ HD3.out.fz).mono ?_
  rintro e w4 ⟨rfl, hz, ho⟩
  have HD4 := Lib.hid (HD3.out.fuse (show Fz w4 f 59 (Fu.arm ⟨false, 0, false, 0⟩ n) from hz) ho (new_good.arm n (by omega)))
  have HB4 := Lib.hid (ho.below HB3.out (Nat.le_of_eq HG.out))
  have HR : Hid (Loop w w4 d f n 0 0) := Lib.hid ⟨P3, _, by have := HD4.out; rw [fuAt_start n] at this; exact this, rfl, rfl, Nat.zero_le _, Nat.zero_le _, HB4.out⟩
  clear hz ho HD3 HD4 HB1 HB2 HB3 HB4
  go_wp2
  clear e2 e3
  go_loopg [7, 45] xs.length (fun g dn i wr => ∃ k j : Nat, Hid (g = xs.length - k) ∧ k ≤ xs.length ∧ dn = .int .i64 j ∧ i = .int .i64 k ∧ j ≤ k ∧ Hid (Loop w wr d f n j k))
  case atStart => exact ⟨0, 0, Lib.hid rfl, Nat.zero_le _, rfl, rfl, Nat.zero_le _, HR⟩
  case round =>
    obtain ⟨k, j, HK, hk', rfl, rfl, hjk, HR⟩ := hrel
    by_cases hlt : k < xs.length
    · obtain ⟨P, s, hd, h8, hs8, hfew, _, hbl⟩ := HR.out
      clear HR
      obtain ⟨v0, v1, v2, v3, v4, v5, v6⟩ := HV.out k hlt
      obtain ⟨⟨kd, at_, nn, y, kp⟩, hA⟩ : ∃ A, A = xs[k] := ⟨_, rfl⟩
      rw [← hA] at v0 v1 v2 v3 v4 v5 v6
      simp only at v0 v1 v2 v3 v4 v5 v6
      have k0 := (hbl.cell (p := ⟨b, off + k * 5, none⟩) hb).trans v0
      have k1 := (hbl.cell (p := ⟨b, off + k * 5 + 1, none⟩) hb).trans v1
      have k2 := (hbl.cell (p := ⟨b, off + k * 5 + 2, none⟩) hb).trans v2
      have k3 := (hbl.cell (p := ⟨b, off + k * 5 + 3, none⟩) hb).trans v3
      have k4 := (hbl.cell (p := ⟨b, off + k * 5 + 4, none⟩) hb).trans v4
      clear v0 v1 v2 v3 v4 hA
      have HD := Lib.hid hd
      have H8 := Lib.hid h8
      have HS8 := Lib.hid hs8
      have HF := Lib.hid hfew
      have HBL := Lib.hid hbl
      clear hd h8 hs8 hfew hbl
      obtain ⟨wa, hwa⟩ : ∃ wa, wa = wr.alloc (.cells #[.int .i64 kd, .int .i64 at_, .int .i64 nn, .int .u8 (y.toNat : Int), .int .u64 (kp : Int)] 41) := ⟨_, rfl⟩
      have q1 : wa.cell? ⟨wr.heap.size, 1, none⟩ = some (.int .i64 at_) := by rw [hwa]; simp
      have q3 : wa.cell? ⟨wr.heap.size, 3, none⟩ = some (.int .u8 (y.toNat : Int)) := by rw [hwa]; simp
      have HDa : Hid (Dsk wa w.heap.size P d f s (fuAt n j)) := by rw [hwa]; exact Lib.hid (HD.out.alloc _)
      have HBa : Hid (Below w.heap.size w wa) := by rw [hwa]; exact Lib.hid (HBL.out.alloc HBL.out.size _)
      have HSa : Hid (wr.heap.size < wa.heap.size) := by rw [hwa]; exact Lib.hid (by simp)
      have HNP : Hid (¬ P wr.heap.size) := Lib.hid (fun hp => by have := (HD.out.lt _ hp).2; omega)
      have HCN : Hid ((fuAt n j).count < 1000000) := Lib.hid (by show ((min j n : Nat) : Int) < 1000000; omega)
      go_wp2_with fail
      rw [← hwa]
      clear hwa
      refine (read_D at_ HDa.out).mono ?_
      rintro e w' ⟨rfl, rfl⟩
      obtain ⟨bf, hbf⟩ : ∃ x, x = rstr s at_ := ⟨_, rfl⟩
      obtain ⟨bc, hbc⟩ : ∃ x, x = rcode s at_ := ⟨_, rfl⟩
      rw [← hbf, ← hbc]
      have HBF := Lib.hid hbf
      clear hbf hbc
      go_wp2
      go_region_held3 (fun wx => wx.cell? ⟨wr.heap.size, 1, none⟩ = some (.int .i64 at_) ∧ wx.cell? ⟨wr.heap.size, 3, none⟩ = some (.int .u8 (y.toNat : Int))) (first | exact ⟨r1, r3⟩ | exact ⟨p1, p3⟩ | exact ⟨q1, q3⟩) (first | (go_at_call 15; refine (fill_any y 128 _ (by decide)).mono ?_; rintro e w7 ⟨rfl, hb7d⟩; have hb7 := under_drew hb7d; clear hb7d; have p1 := (hb7.cell (p := ⟨wr.heap.size, 1, none⟩) HSa.out).trans q1; have p3 := (hb7.cell (p := ⟨wr.heap.size, 3, none⟩) HSa.out).trans q3) | (go_at_call 14; refine (write_D at_ (same y 128) (HDa.out.under hb7) HCN.out (by have := HF.out; omega) (Nat.le_trans HBa.out.size hb7.size)).mono ?_; rintro e w8 ⟨rfl, P8, hd8, hk8, hp8⟩; have r1 := (World.cell?_of_block (w := w7) (w' := w8) (a := ⟨wr.heap.size, 1, none⟩) (hk8.block _ (Nat.lt_of_lt_of_le HSa.out hb7.size) HNP.out)).trans p1; have r3 := (World.cell?_of_block (w := w7) (w' := w8) (a := ⟨wr.heap.size, 3, none⟩) (hk8.block _ (Nat.lt_of_lt_of_le HSa.out hb7.size) HNP.out)).trans p3))
      have HD8 := Lib.hid hd8
      have HB8 := Lib.hid ((HBa.out.trans (hb7.mono HBa.out.size)).trans (hk8.below (fun k hk => (HDa.out.lt k hk).1) (Nat.le_trans HBa.out.size hb7.size)))
      have HSZ8 : Hid (wr.heap.size < w8.heap.size) := Lib.hid (Nat.lt_of_lt_of_le HSa.out (Nat.le_trans hb7.size hk8.size))
      clear hd8 hk8 hp8 hb7 p1 p3 q1 q3 HDa HBa HNP HSa HD
      obtain ⟨x, hx⟩ : ∃ x, x = same y 128 := ⟨_, rfl⟩
      rw [← hx] at HD8 ⊢
      have HX := Lib.hid hx
      have HSX : Hid (x.size = s.size) := Lib.hid (by rw [hx, same_size, HS8.out])
      clear hx
      have HL := Lib.hid (wstate_len s (fuAt n j) at_ x)
      by_cases hr : at_ < 0 ∨ 7 < at_
      · obtain ⟨t1, t2, t3⟩ := out_of (fu := fuAt n j) (b := x) hr H8.out
        rw [t1]
        rw [t2, t3] at HD8
        clear t1 t2 t3
        go_wp2_with fail
        refine (read_D at_ HD8.out).mono ?_
        rintro e w' ⟨rfl, rfl⟩
        obtain ⟨af, haf⟩ : ∃ x, x = rstr s at_ := ⟨_, rfl⟩
        obtain ⟨ac, hac⟩ : ∃ x, x = rcode s at_ := ⟨_, rfl⟩
        rw [← haf, ← hac]
        clear haf hac
        rcases (by omega : at_ < 0 ∨ (0 ≤ at_ ∧ 7 < at_)) with h0 | ⟨h0, h7⟩
        · have g1 : decide (at_ < 0) = true := by simpa using h0
          clear hr
          go_wp2
          go_roundg (xs.length - (k + 1))
          case measure => have := HK.out; omega
          case rel => exact ⟨k + 1, j, Lib.hid rfl, by omega, rfl, by go_num, by omega, Lib.hid ⟨P8, s, HD8.out, H8.out, HS8.out, Nat.le_succ_of_le HF.out, by omega, HB8.out⟩⟩
        · have g1 : decide (at_ < 0) = false := by simpa using h0
          have g2 : decide (7 < at_) = true := by simpa using h7
          clear hr
          go_wp2
          go_roundg (xs.length - (k + 1))
          case measure => have := HK.out; omega
          case rel => exact ⟨k + 1, j, Lib.hid rfl, by omega, rfl, by go_num, by omega, Lib.hid ⟨P8, s, HD8.out, H8.out, HS8.out, Nat.le_succ_of_le HF.out, by omega, HB8.out⟩⟩
      · have hin : 0 ≤ at_ ∧ at_ ≤ 7 := by omega
        have g1 : decide (at_ < 0) = false := by simpa using hin.1
        have g2 : decide (7 < at_) = false := by simpa using hin.2
        have HIN := Lib.hid hin
        clear hr hin
        by_cases hjn : j < n
        · have e4 : decide ((j : Int) < (n : Int)) = true := by simpa using hjn
          have e4n : decide (j < n) = true := by simpa using hjn
          have e5 : decide ((n : Int) ≤ (j : Int)) = false := by simpa using hjn
          have e5n : decide (n ≤ j) = false := by simpa using hjn
          obtain ⟨t1, t2, t3⟩ := in_borne (fu := fuAt n j) HIN.out H8.out HSX.out (by rw [fuAt_ok]; simpa using hjn)
          rw [t1]
          rw [t2, fuAt_spent] at HD8
          have HT3 := Lib.hid t3
          clear t1 t2 t3
          go_wp2_with fail
          refine (read_D at_ HD8.out).mono ?_
          rintro e w' ⟨rfl, rfl⟩
          rw [HT3.out]
          obtain ⟨ac, hac⟩ : ∃ q, q = rcode (wstate s (fuAt n j) at_ x) at_ := ⟨_, rfl⟩
          rw [← hac]
          clear hac
          go_wp2_with fail
          refine (fill_any y 128 _ (by decide)).mono ?_
          rintro e w9 ⟨rfl, hb9⟩
          rw [← HX.out]
          have HD9 := Lib.hid (HD8.out.under hb9)
          have HB9 := Lib.hid (HB8.out.trans (hb9.mono HB8.out.size))
          clear hb9 HD8
          go_wp2
          go_roundg (xs.length - (k + 1))
          case measure => have := HK.out; omega
          case rel => exact ⟨k + 1, j + 1, Lib.hid rfl, by omega, by go_num, by go_num, by omega, Lib.hid ⟨P8, _, HD9.out, HL.out.1.trans H8.out, HL.out.2.1.trans HS8.out, Nat.le_trans HL.out.2.2 (Nat.succ_le_succ HF.out), by omega, HB9.out⟩⟩
        · have e4 : decide ((j : Int) < (n : Int)) = false := by simpa using hjn
          have e4n : decide (j < n) = false := by simpa using hjn
          have e5 : decide ((n : Int) ≤ (j : Int)) = true := by simpa using hjn
          have e5n : decide (n ≤ j) = true := by simpa using hjn
          obtain ⟨t1, t2, t3⟩ := in_halted (fu := fuAt n j) HIN.out H8.out HSX.out (by rw [fuAt_ok]; simpa using hjn)
          rw [t1]
          rw [t2, t3, fuAt_spent] at HD8
          clear t1 t2 t3
          go_wp2_with fail
          refine (read_D at_ HD8.out).mono ?_
          rintro e w' ⟨rfl, rfl⟩
          rw [← HBF.out]
          obtain ⟨ac, hac⟩ : ∃ q, q = rcode s at_ := ⟨_, rfl⟩
          rw [← hac]
          clear hac
          go_wp2
          go_roundg (xs.length - (k + 1))
          case measure => have := HK.out; omega
          case rel => exact ⟨k + 1, j + 1, Lib.hid rfl, by omega, by go_num, by go_num, by omega, Lib.hid ⟨P8, s, HD8.out, H8.out, HS8.out, Nat.le_succ_of_le HF.out, by omega, HB8.out⟩⟩
    · obtain rfl : k = xs.length := by omega
      obtain ⟨P, s, hd, h8, hs8, hfew, _, hbl⟩ := HR.out
      have HD := Lib.hid hd
      have HF := Lib.hid hfew
      have HBL := Lib.hid hbl
      have HCN : Hid ((fuAt n j).count < 1000000) := Lib.hid (by show ((min j n : Nat) : Int) < 1000000; omega)
      clear hd h8 hs8 hfew hbl HR
      by_cases hjn : j < n
      · have e5 : decide ((n : Int) ≤ (j : Int)) = false := by simpa using hjn
        have e5n : decide (n ≤ j) = false := by simpa using hjn
        go_wp2_with fail
        refine (crash_D 0 0 (by decide) HD.out (by have := HF.out; omega)).mono ?_
        rintro e w7 ⟨rfl, hd, hk7⟩
        have HD7 := Lib.hid hd
        have HB7 := Lib.hid (HBL.out.trans (hk7.below (fun k hk => (HD.out.lt k hk).1) HBL.out.size))
        clear hd hk7
        go_wp2_with fail
        refine (flush_D HD7.out HCN.out (by show 0 < 1000000; decide)).mono ?_
        rintro e w8 ⟨rfl, hd, hk8⟩
        rw [show fcode (fuAt n j).reset = 0 from rfl]
        have HD8 := Lib.hid hd
        have HB8 := Lib.hid (HB7.out.trans (hk8.below (fun k hk => (HD7.out.lt k hk).1) HB7.out.size))
        clear hd hk8 HD7
        go_wp2_with fail
        refine (blown_any f _ _ HD8.out.fz).mono ?_
        rintro e w' ⟨rfl, rfl⟩
        rw [show ((fuAt n j).reset.spent).blown = false from rfl]
        go_wp2
        go_ret
        exact ⟨rfl, HB8.out⟩
      · have e5 : decide ((n : Int) ≤ (j : Int)) = true := by simpa using hjn
        have e5n : decide (n ≤ j) = true := by simpa using hjn
        have HO : Hid ((fuAt n j).ok = false) := Lib.hid (by rw [fuAt_ok]; simpa using hjn)
        go_wp2_with fail
        refine (flush_D HD.out HCN.out (by have := HF.out; omega)).mono ?_
        rintro e w6 ⟨rfl, hd, hk6⟩
        rw [show fcode (fuAt n j) = 2 by simp [fcode, HO.out]]
        rw [show fstate s (fuAt n j) = s by simp [fstate, HO.out], fuAt_spent] at hd
        have HD6 := Lib.hid hd
        have HB6 := Lib.hid (HBL.out.trans (hk6.below (fun k hk => (HD.out.lt k hk).1) HBL.out.size))
        have HC6 : Hid ((fuAt n (j + 1)).count < 1000000) := Lib.hid (by show ((min (j + 1) n : Nat) : Int) < 1000000; omega)
        clear hd hk6
        go_wp2_with fail
        refine (crash_D 0 0 (by decide) HD6.out (by have := HF.out; omega)).mono ?_
        rintro e w7 ⟨rfl, hd, hk7⟩
        have HD7 := Lib.hid hd
        have HB7 := Lib.hid (HB6.out.trans (hk7.below (fun k hk => (HD6.out.lt k hk).1) HB6.out.size))
        clear hd hk7
        go_wp2_with fail
        refine (flush_D HD7.out HC6.out (by show 0 < 1000000; decide)).mono ?_
        rintro e w8 ⟨rfl, hd, hk8⟩
        rw [show fcode (fuAt n (j + 1)).reset = 0 from rfl]
        have HD8 := Lib.hid hd
        have HB8 := Lib.hid (HB7.out.trans (hk8.below (fun k hk => (HD7.out.lt k hk).1) HB7.out.size))
        clear hd hk8 HD7
        go_wp2_with fail
        refine (blown_any f _ _ HD8.out.fz).mono ?_
        rintro e w' ⟨rfl, rfl⟩
        rw [show ((fuAt n (j + 1)).reset.spent).blown = false from rfl]
        go_wp2
        go_ret
        exact ⟨rfl, HB8.out⟩

set_option maxRecDepth 20000 in
set_option maxHeartbeats 2000000 in
theorem walk_none (A : Option Addr) (cp : Nat) (n : Nat) (w : World) (hn : n ≤ 200) : Calls Try.prog 6 #[.slice A 0 cp, .int .i64 (n : Int)] w (Holds w) := by
  have e2 : decide ((n : Int) < 0) = false := by simp
  have e3 : decide (200 < (n : Int)) = false := by simp; omega
  go_enter Try.func6, Try.ntmps6
  go_wp2_with fail
  refine (new_any _).mono ?_
  rintro e w1 ⟨f, rfl, hg, hz, hb⟩
  have HB1 := Lib.hid hb
  have HZ1 := Lib.hid hz
  have HG := Lib.hid hg
  clear hz hb hg
  go_wp2_with fail
  refine (awake_yes _).mono ?_
  rintro e w2 ⟨rfl, hb⟩
  have HZ2 := Lib.hid (HZ1.out.under hb HZ1.out.lt)
  have HB2 := Lib.hid (HB1.out.trans (hb.mono HB1.out.size))
  clear hb HZ1
  go_wp2_with fail
  refine (new_D (B := w.heap.size) 128 8 128 8 (by decide) (by decide) HZ2.out new_good (Nat.le_of_eq HG.out) HB2.out.size).mono ?_
  rintro e w3 ⟨d, P3, rfl, hd, hb, hp⟩
  have HD3 := Lib.hid hd
  have HB3 := Lib.hid (HB2.out.trans (hb.mono HB2.out.size))
  clear hd hb hp HZ2
  go_wp2_with fail
  refine (arm_any f n _ _ HD3.out.fz).mono ?_
  rintro e w4 ⟨rfl, hz, ho⟩
  have HD4 := Lib.hid (HD3.out.fuse (show Fz w4 f 59 (Fu.arm ⟨false, 0, false, 0⟩ n) from hz) ho (new_good.arm n (by omega)))
  have HB4 := Lib.hid (ho.below HB3.out (Nat.le_of_eq HG.out))
  have HR : Hid (Loop w w4 d f n 0 0) := Lib.hid ⟨P3, _, by have := HD4.out; rw [fuAt_start n] at this; exact this, rfl, rfl, Nat.zero_le _, Nat.zero_le _, HB4.out⟩
  clear hz ho HD3 HD4 HB1 HB2 HB3 HB4
  go_wp2
  clear e2 e3
  refine wp_loop_rounds 1 ?_
  rw [rounds_succ]
  obtain ⟨P, s, hd, h8, hs8, hfew, _, hbl⟩ := HR.out
  obtain ⟨j, hj⟩ : ∃ j : Nat, j = 0 := ⟨_, rfl⟩
  have HD : Hid (Dsk w4 w.heap.size P d f s (fuAt n j)) := Lib.hid (by rw [hj]; exact hd)
  have HF := Lib.hid hfew
  have HBL := Lib.hid hbl
  have HCN : Hid ((fuAt n j).count < 1000000) := Lib.hid (by show ((min j n : Nat) : Int) < 1000000; omega)
  clear hd h8 hs8 hfew hbl HR
  by_cases hjn : j < n
  · have ez1 : decide ((n : Int) ≤ 0) = false := by simp; omega
    have ez2 : decide (n = 0) = false := by simp; omega
    have ez3 : decide (n ≤ 0) = false := by simp; omega
    clear hjn
    go_wp2_with fail
    refine (crash_D 0 0 (by decide) HD.out (by have := HF.out; omega)).mono ?_
    rintro e w7 ⟨rfl, hd, hk7⟩
    have HD7 := Lib.hid hd
    have HB7 := Lib.hid (HBL.out.trans (hk7.below (fun k hk => (HD.out.lt k hk).1) HBL.out.size))
    clear hd hk7
    go_wp2_with fail
    refine (flush_D HD7.out HCN.out (by show 0 < 1000000; decide)).mono ?_
    rintro e w8 ⟨rfl, hd, hk8⟩
    rw [show fcode (fuAt n j).reset = 0 from rfl]
    have HD8 := Lib.hid hd
    have HB8 := Lib.hid (HB7.out.trans (hk8.below (fun k hk => (HD7.out.lt k hk).1) HB7.out.size))
    clear hd hk8 HD7
    go_wp2_with fail
    refine (blown_any f _ _ HD8.out.fz).mono ?_
    rintro e w' ⟨rfl, rfl⟩
    rw [show ((fuAt n j).reset.spent).blown = false from rfl]
    go_wp2
    go_ret
    exact ⟨rfl, HB8.out⟩
  · have ez1 : decide ((n : Int) ≤ 0) = true := by simp; omega
    have ez2 : decide (n = 0) = true := by simp; omega
    have ez3 : decide (n ≤ 0) = true := by simp; omega
    have HO : Hid ((fuAt n j).ok = false) := Lib.hid (by rw [fuAt_ok]; simpa using hjn)
    clear hjn
    go_wp2_with fail
    refine (flush_D HD.out HCN.out (by have := HF.out; omega)).mono ?_
    rintro e w6 ⟨rfl, hd, hk6⟩
    rw [show fcode (fuAt n j) = 2 by simp [fcode, HO.out]]
    rw [show fstate s (fuAt n j) = s by simp [fstate, HO.out], fuAt_spent] at hd
    have HD6 := Lib.hid hd
    have HB6 := Lib.hid (HBL.out.trans (hk6.below (fun k hk => (HD.out.lt k hk).1) HBL.out.size))
    have HC6 : Hid ((fuAt n (j + 1)).count < 1000000) := Lib.hid (by show ((min (j + 1) n : Nat) : Int) < 1000000; omega)
    clear hd hk6
    go_wp2_with fail
    refine (crash_D 0 0 (by decide) HD6.out (by have := HF.out; omega)).mono ?_
    rintro e w7 ⟨rfl, hd, hk7⟩
    have HD7 := Lib.hid hd
    have HB7 := Lib.hid (HB6.out.trans (hk7.below (fun k hk => (HD6.out.lt k hk).1) HB6.out.size))
    clear hd hk7
    go_wp2_with fail
    refine (flush_D HD7.out HC6.out (by show 0 < 1000000; decide)).mono ?_
    rintro e w8 ⟨rfl, hd, hk8⟩
    rw [show fcode (fuAt n (j + 1)).reset = 0 from rfl]
    have HD8 := Lib.hid hd
    have HB8 := Lib.hid (HB7.out.trans (hk8.below (fun k hk => (HD7.out.lt k hk).1) HB7.out.size))
    clear hd hk8 HD7
    go_wp2_with fail
    refine (blown_any f _ _ HD8.out.fz).mono ?_
    rintro e w' ⟨rfl, rfl⟩
    rw [show ((fuAt n (j + 1)).reset.spent).blown = false from rfl]
    go_wp2
    go_ret
    exact ⟨rfl, HB8.out⟩

set_option maxHeartbeats 1000000 in
theorem walk_out (v : Value) (k c : Nat) (A : Option Addr) (n : Int) (w : World) (hv : v = .slice A k c) (hk : k ≤ maxLen) (h : 100 < k ∨ n < 0 ∨ 200 < n) : Calls Try.prog 6 #[v, .int .i64 n] w (Holds w) := by
  subst hv
  unfold maxLen at hk
  go_enter Try.func6, Try.ntmps6
  go_wp2_with fail
  refine (new_any _).mono ?_
  rintro e w1 ⟨f, rfl, hg, hz, hb⟩
  have HB1 := Lib.hid hb
  clear hz hb hg
  by_cases h1 : 100 < k
  · have e1 : decide (100 < (k : Int)) = true := by simp; omega
    clear h
    go_wp2_with fail
    refine (awake_yes _).mono ?_
    rintro e w2 ⟨rfl, hb2⟩
    have HB2 := Lib.hid (HB1.out.trans (hb2.mono HB1.out.size))
    clear hb2
    go_wp2_with fail
    refine (awake_yes _).mono ?_
    rintro e w3 ⟨rfl, hb3⟩
    go_wp2
    go_ret
    exact ⟨rfl, HB2.out.trans (hb3.mono HB2.out.size)⟩
  · have e1 : decide (100 < (k : Int)) = false := by simp; omega
    by_cases h2 : n < 0
    · have e2 : decide (n < 0) = true := by simpa using h2
      clear h
      go_wp2_with fail
      refine (awake_yes _).mono ?_
      rintro e w2 ⟨rfl, hb2⟩
      have HB2 := Lib.hid (HB1.out.trans (hb2.mono HB1.out.size))
      clear hb2
      go_wp2_with fail
      refine (awake_yes _).mono ?_
      rintro e w3 ⟨rfl, hb3⟩
      go_wp2
      go_ret
      exact ⟨rfl, HB2.out.trans (hb3.mono HB2.out.size)⟩
    · have e2 : decide (n < 0) = false := by simpa using h2
      have e3 : decide (200 < n) = true := by simp; omega
      clear h
      go_wp2_with fail
      refine (awake_yes _).mono ?_
      rintro e w2 ⟨rfl, hb2⟩
      have HB2 := Lib.hid (HB1.out.trans (hb2.mono HB1.out.size))
      clear hb2
      go_wp2_with fail
      refine (awake_yes _).mono ?_
      rintro e w3 ⟨rfl, hb3⟩
      go_wp2
      go_ret
      exact ⟨rfl, HB2.out.trans (hb3.mono HB2.out.size)⟩

theorem walk (v : Value) (n : Int) (w : World) (h : Acts w v) : Calls Try.prog 6 #[v, .int .i64 n] w (Holds w) := by
  rcases h with ⟨A, cp, rfl⟩ | ⟨b, off, cp, xs, rfl, hx, h0, hb, hv⟩
  · by_cases h1 : n < 0 ∨ 200 < n
    · exact walk_out _ 0 cp A n w rfl (by unfold maxLen; omega) (.inr h1)
    · obtain ⟨m, rfl⟩ : ∃ m : Nat, n = (m : Int) := ⟨n.toNat, by omega⟩
      exact walk_none A cp m w (by omega)
  · by_cases h1 : 100 < xs.length ∨ n < 0 ∨ 200 < n
    · exact walk_out _ xs.length cp _ n w rfl hx h1
    · obtain ⟨m, rfl⟩ : ∃ m : Nat, n = (m : Int) := ⟨n.toNat, by omega⟩
      exact walk_main b off cp xs m w (by omega) h0 hb (by omega) hv

/-! From the walk to the given row. -/
set_option maxRecDepth 100000 in
theorem lifted (os : Os) (started : os.Started) (H : Type) (enc : TypeId × Value → H) :
    ReturnsInHanded {} Try.checked os 6 .any (Rows.diskFusesSpec.pre6 enc Try.prog Try.f6 Rows.diskFusesRow.domain false) (Rows.diskFusesSpec.post enc Try.prog Try.f6 false true false false) := by
  refine returnsInHanded_of_change (C := Try.checked) t_own started (by kernel_rfl) Try.func6
    (ChangeSpec.witness6 (enc := enc) (C := Try.checked) false ⟨#[], #[.slice none 0 0, .int .i64 0], []⟩ 8 (by kernel_rfl) (by kernel_rfl) (by kernel_rfl) (by kernel_rfl)) ?_
  intro W base args ds gs before hval0 hW hcnd _
  have hval : ∀ (j : Nat) t v, Try.f6.params[j]? = some t → args[j]? = some v → Value.okWide Try.prog W .any base t v := hval0
  have hW' := hW
  obtain ⟨p, q, hA0, hV, rfl, hfz, hnd⟩ := hW
  have hA : DataW.TrodAll enc Try.prog W 0 (fun _ => true) true Try.f6.params.toList args.toList ds p := hA0
  rw [Try.params6] at hA hval
  obtain ⟨v0, vs0, d0, ds0, p0, q0, hargs, rfl, rfl, h0, r0⟩ := trodAll_cons hA
  obtain ⟨v1, vs1, d1, ds1, p1, q1, rfl, rfl, rfl, h1, r1⟩ := trodAll_cons r0
  obtain ⟨rfl, rfl, rfl⟩ := trodAll_nil r1
  obtain rfl : args = #[v0, v1] := by cases args; simp_all
  obtain ⟨a1, rfl, rfl, rfl, w1⟩ := open_int Try.underlying3 (hval 1 3 v1 rfl rfl) h1
  refine (walk v0 a1 W (open_acts (hval 0 23 v0 rfl rfl) h0)).mono fun e W' ⟨he, hb⟩ => ?_
  subst he
  exact ⟨_, rfl, post_of_holds hW' (by kernel_rfl) rfl (by rw [Try.params6]; exact fun t ht => params_ok t (by simp at ht; rcases ht with rfl | rfl <;> simp)) ⟨rfl, rfl, rfl⟩ hb⟩

/-- The given statement. -/
theorem proved : Rows.DiskFusesSaid :=
  OpenClaim.holds_of_wide 6 Try.f6 rfl rfl rfl rfl rfl rfl rfl ⟨rfl, rfl, rfl, rfl, rfl⟩ rfl rfl rfl rfl rfl (by kernel_rfl) Try.func6 (by kernel_rfl)
    (of_decide_eq_true (by kernel_rfl)) (by unfold Func.isWrapper; first | (rw [if_pos (by decide +kernel)]; kernel_rfl) | (rw [if_neg (by decide +kernel)]; exact ⟨rfl, rfl⟩))
    (fun os started H enc _ => lifted os started H enc)
#print axioms proved
end Go.Proofs.Ytffnalnceceinaa.diskFuses
