/-
  The walk of DiskPlays through a list of calls: program and document, call by call.
-/
import Derived.Test.YtffnalnceceinaaLift
import Derived.Test.YtffnalnceceinaaRefE
import Derived.Deep.RegionHeld3
import Derived.BigQuiet
import Derived.WideKeyArr2
import Derived.OpenShut
namespace Go.Proofs.Ytffnalnceceinaa.diskPlays
open Go.ChangeShapes Go.WideShapes Go.ChangeAt Go.RowKit

theorem under_drew {wa w7 : World} (h : Below wa.drew.heap.size wa.drew w7) : Below wa.heap.size wa w7 := ⟨h.os, h.tape, h.output, h.size, h.block⟩
theorem apart_grow {P P' Q : Nat → Prop} {n : Nat} (hp : ∀ k, P' k → P k ∨ n ≤ k) (hQ : ∀ k, Q k → k < n) (h : ∀ k, P k → ¬ Q k) : ∀ k, P' k → ¬ Q k := fun k hk hq => by
  rcases hp k hk with h1 | h1
  · exact h k h1 hq
  · have := hQ k hq
    omega
theorem cell_stays {w w' : World} {P : Nat → Prop} (h : Kept P w w') {a i : Nat} (ha : a < w.heap.size) (hn : ¬ P a) : w'.cell? ⟨a, i, none⟩ = w.cell? ⟨a, i, none⟩ := World.cell?_of_block (w := w) (w' := w') (a := ⟨a, i, none⟩) (h.block a ha hn)
theorem cell_only {w w' : World} {f a i : Nat} (h : Only f w w') (hn : a ≠ f) : w'.cell? ⟨a, i, none⟩ = w.cell? ⟨a, i, none⟩ := World.cell?_of_block (w := w) (w' := w') (a := ⟨a, i, none⟩) (h.block a hn)

section
variable {P : Nat → Prop} {w : World} {B d f : Nat} {s : Dk} {fu : Fu}
theorem size_q (h : Dsk w B P d f s fu) (n : Nat) : Calls Try.prog 12 #[.pointer (some ⟨d, 0, none⟩)] (w.drewN n) fun e w'' => e = .returned (.int .i64 (s.size : Int)) ∧ ∃ k, w'' = w.drewN k :=
  Calls.quiet_of_same ((size_D (h.drewN n)).mono fun _ _ ⟨he, hw⟩ => ⟨he, hw.symm⟩)
theorem len_q (h : Dsk w B P d f s fu) (n : Nat) : Calls Try.prog 13 #[.pointer (some ⟨d, 0, none⟩)] (w.drewN n) fun e w'' => e = .returned (.int .i64 (s.now.length : Int)) ∧ ∃ k, w'' = w.drewN k :=
  Calls.quiet_of_same ((len_D (h.drewN n)).mono fun _ _ ⟨he, hw⟩ => ⟨he, hw.symm⟩)
theorem open_q (h : Dsk w B P d f s fu) (n : Nat) : Calls Try.prog 23 #[.pointer (some ⟨d, 0, none⟩)] (w.drewN n) fun e w'' => e = .returned (.int .i64 (s.opn.length : Int)) ∧ ∃ k, w'' = w.drewN k :=
  Calls.quiet_of_same ((open_D (h.drewN n)).mono fun _ _ ⟨he, hw⟩ => ⟨he, hw.symm⟩)
theorem blown_q (h : Dsk w B P d f s fu) (n : Nat) : Calls Try.prog 24 #[.pointer (some ⟨f, 0, none⟩)] (w.drewN n) fun e w'' => e = .returned (.bool fu.blown) ∧ ∃ k, w'' = w.drewN k :=
  Calls.quiet_of_same ((blown_any f _ (w.drewN n) h.fz).mono fun _ _ ⟨he, hw⟩ => ⟨he, hw.symm⟩)
theorem count_q (h : Dsk w B P d f s fu) (n : Nat) : Calls Try.prog 25 #[.pointer (some ⟨f, 0, none⟩)] (w.drewN n) fun e w'' => e = .returned (.int .i64 fu.count) ∧ ∃ k, w'' = w.drewN k :=
  Calls.quiet_of_same ((count_any f _ (w.drewN n) h.fz).mono fun _ _ ⟨he, hw⟩ => ⟨he, hw.symm⟩)
end

/-- Both disks in the loop: alike, and apart. -/
def Loop (w0 w : World) (d f m g k : Nat) : Prop := ∃ (P R : Nat → Prop) (s : Dk) (fu : Fu), Dsk w w0.heap.size P d f s fu ∧ DskR w w0.heap.size R m g s fu ∧ (∀ k, P k → ¬ R k) ∧ s.opn.length ≤ k ∧ fu.count ≤ k ∧ Below w0.heap.size w0 w

theorem below_drewN {B : Nat} {a w : World} (h : Below B a w) (n : Nat) : Below B a (w.drewN n) := ⟨h.os, h.tape, h.output, h.size, h.block⟩
theorem Fz.past {w w' : World} {b : Nat} {t : TypeId} {s : Fu} (h : Fz w b t s) (hb : Below w.heap.size w w') : Fz w' b t s := h.under hb h.lt

set_option maxRecDepth 20000 in
set_option maxHeartbeats 16000000 in
theorem walk_main (a0 a1 : Int) (b off cp : Nat) (xs : List Ac) (w : World) (hl : xs.length ≤ 100) (hp : 0 < xs.length) (hb : b < w.heap.size) (ha : a1 ≤ 40)
    (hv : ∀ i (hi : i < xs.length), Lies w b (off + i * 5) xs[i]) : Calls Try.prog 3 #[.agg #[.int .i64 a0, .int .i64 a1], .slice (some ⟨b, off, none⟩) xs.length cp] w (Holds w) := by
  have e1 : decide (100 < (xs.length : Int)) = false := by simp; omega
  have e2 : decide (40 < a1) = false := by simpa using ha
  obtain ⟨z, hz⟩ : ∃ z : Nat, (z : Int) = min (max a0 128) 1024 := ⟨(min (max a0 128) 1024).toNat, by omega⟩
  obtain ⟨n, hn⟩ : ∃ n : Nat, (n : Int) = min (max a1 4) 1024 := ⟨(min (max a1 4) 1024).toNat, by omega⟩
  have HZN := Lib.hid hz
  have HNN := Lib.hid hn
  have HV := Lib.hid hv
  clear hv hz hn
  go_enter Try.func3, Try.ntmps3
  obtain ⟨Z, hZ⟩ : ∃ Z, Z = w.heap.size := ⟨_, rfl⟩
  obtain ⟨wz, hwz⟩ : ∃ wz, wz = w.alloc (.cells #[.int .i64 a0, .int .i64 a1] 22) := ⟨_, rfl⟩
  have z0 : wz.cell? ⟨Z, 0, none⟩ = some (.int .i64 a0) := by rw [hwz, hZ]; simp
  have z1 : wz.cell? ⟨Z, 1, none⟩ = some (.int .i64 a1) := by rw [hwz, hZ]; simp
  have HBz : Hid (Below w.heap.size w wz) := by rw [hwz]; exact Lib.hid ((Below.refl _ _).alloc (Nat.le_refl _) _)
  have HSz : Hid (Z < wz.heap.size) := by rw [hwz, hZ]; exact Lib.hid (by simp)
  go_wp2_with fail
  rw [← hwz, ← hZ]
  have HZE := Lib.hid hZ
  clear hwz hZ
  refine (new_any _).mono ?_
  rintro e w1 ⟨f, rfl, hg, hz, hb⟩
  have HZ1 := Lib.hid hz
  have HGF := Lib.hid hg
  have HB1 := Lib.hid (HBz.out.trans (hb.mono HBz.out.size))
  have HS1 : Hid (Z < w1.heap.size) := Lib.hid (Nat.lt_of_lt_of_le HSz.out hb.size)
  have v0 := (hb.cell (p := ⟨Z, 0, none⟩) HSz.out).trans z0
  have v1 := (hb.cell (p := ⟨Z, 1, none⟩) HSz.out).trans z1
  clear hz hb hg z0 z1
  obtain ⟨g, hgg⟩ : ∃ g, g = w1.heap.size := ⟨_, rfl⟩
  obtain ⟨w1g, hw1g⟩ : ∃ x, x = w1.alloc (.cells #[.bool false, .int .i64 0, .bool false, .int .i64 0] 28) := ⟨_, rfl⟩
  have HZg : Hid (Fz w1g f 59 ⟨false, 0, false, 0⟩) := by rw [hw1g]; exact Lib.hid ((Below.heap_alloc w1 _ f HZ1.out.lt).trans HZ1.out)
  have HGg : Hid (FzR w1g g ⟨false, 0, false, 0⟩) := by rw [hw1g, hgg]; exact Lib.hid ⟨0, Fz.new w1 28 false 0 false 0, fun h => by cases h⟩
  have HFG : Hid (f < g) := Lib.hid (by rw [hgg]; exact HZ1.out.lt)
  have HB1g : Hid (Below w.heap.size w w1g) := by rw [hw1g]; exact Lib.hid (HB1.out.alloc HB1.out.size _)
  have HS1g : Hid (Z < w1g.heap.size) := by rw [hw1g]; exact Lib.hid (by have := HS1.out; simp; omega)
  have u0 : w1g.cell? ⟨Z, 0, none⟩ = some (.int .i64 a0) := by rw [hw1g, World.cell?_alloc_lt _ _ _ HS1.out]; exact v0
  have u1 : w1g.cell? ⟨Z, 1, none⟩ = some (.int .i64 a1) := by rw [hw1g, World.cell?_alloc_lt _ _ _ HS1.out]; exact v1
  clear v0 v1
  go_wp2_with fail
  rw [← hw1g, ← hgg]
  clear hw1g hgg HZ1 HB1 HS1
  refine (awake_yes _).mono ?_
  rintro e w2 ⟨rfl, hb⟩
  have HF2 := Lib.hid (Fz.past HZg.out hb)
  have HG2 := Lib.hid (HGg.out.block (hb.block g HGg.out.lt))
  have HB2 := Lib.hid (HB1g.out.trans (hb.mono HB1g.out.size))
  have HS2 : Hid (Z < w2.heap.size) := Lib.hid (Nat.lt_of_lt_of_le HS1g.out hb.size)
  have q0 := (hb.cell (p := ⟨Z, 0, none⟩) HS1g.out).trans u0
  have q1 := (hb.cell (p := ⟨Z, 1, none⟩) HS1g.out).trans u1
  have HZw : Hid (w.heap.size ≤ Z) := Lib.hid (Nat.le_of_eq HZE.out.symm)
  have HFZ : Hid (Z < f) := Lib.hid (by rw [← HGF.out]; exact HSz.out)
  clear hb u0 u1 HZg HGg HB1g HS1g
  go_wp2
  go_region_held3 (fun wx => wx.cell? ⟨Z, 0, none⟩ = some (.int .i64 a0) ∧ wx.cell? ⟨Z, 1, none⟩ = some (.int .i64 a1)) (first | exact ⟨r0, r1⟩ | exact ⟨p0, p1⟩ | exact ⟨q0, q1⟩) (first | (go_at_call 10; refine (new_D (B := w.heap.size) (f := f) a0 a1 z n HZN.out HNN.out ?_ new_good (Nat.le_trans HZw.out (Nat.le_of_lt HFZ.out)) ?_).mono ?_; (exact HF2.out); (exact HB2.out.size); rintro e w3 ⟨d, P3, rfl, hd3, hb3d, hp3⟩; have hb3 := under_drew hb3d; clear hb3d; have p0 := (hb3.cell (p := ⟨Z, 0, none⟩) HS2.out).trans q0; have p1 := (hb3.cell (p := ⟨Z, 1, none⟩) HS2.out).trans q1; have HS3 : Hid (Z < w3.heap.size) := Lib.hid (Nat.lt_of_lt_of_le HS2.out hb3.size); have HG3 := Lib.hid (HG2.out.block (hb3.block g HG2.out.lt)); have HB3 := Lib.hid (HB2.out.trans (hb3.mono HB2.out.size))) | (go_at_call 11; refine (mnew_D (B := w.heap.size) (g := g) a0 a1 z n HZN.out HNN.out HG3.out new_good (Nat.le_trans HZw.out (Nat.le_of_lt (Nat.lt_trans HFZ.out HFG.out))) HB3.out.size).mono ?_; rintro e w4 ⟨m, R4, rfl, hd4, hb4, hp4⟩; have r0 := (hb4.cell (p := ⟨Z, 0, none⟩) HS3.out).trans p0; have r1 := (hb4.cell (p := ⟨Z, 1, none⟩) HS3.out).trans p1))
  have HD4 := Lib.hid (hd3.under hb4)
  have HM4 := Lib.hid hd4
  have HP4 : Hid (∀ k, P3 k → ¬ R4 k) := Lib.hid (fun k h1 h2 => by
    have a1 := hp3 k h1
    have a2 := hp4 k h2
    have a3 := (hd3.lt k h1).2
    have a4 := HG2.out.lt
    have a5 := HFG.out
    have a6 : w2.heap.size ≤ w3.heap.size := hb3.size
    have a7 : w2.drew.heap.size = w2.heap.size := rfl
    omega)
  have HB4 := Lib.hid (HB3.out.trans (hb4.mono HB3.out.size))
  clear hd3 hd4 hb3 hb4 hp3 hp4 p0 p1 q0 q1 r0 r1 HF2 HG2 HS2 HS3 HG3 HB2 HB3
  have c0 := HM4.out.c0
  obtain ⟨na, nc, c2⟩ := HM4.out.c2
  go_wp2
  go_quiet (first | (go_at_call 12; exact size_q HD4.out _) | (go_at_call 13; exact len_q HD4.out _))
  obtain ⟨w5, hw5⟩ : ∃ W, W = w4.drewN nq := ⟨_, rfl⟩
  rw [← hw5]
  have HR : Hid (Loop w w5 d f m g 0) := by
    rw [hw5]
    exact Lib.hid ⟨P3, R4, _, _, HD4.out.drewN nq, HM4.out.drewN nq, HP4.out, Nat.zero_le _, by decide, below_drewN HB4.out nq⟩
  clear hw5 c0 c2 HD4 HM4 HP4 HB4
  go_wp2
  clear e2
  go_loopg [72] xs.length (fun gg i wr => ∃ k : Nat, Hid (gg = xs.length - k) ∧ k ≤ xs.length ∧ i = .int .i64 k ∧ Hid (Loop w wr d f m g k))
  case atStart => exact ⟨0, Lib.hid rfl, Nat.zero_le _, rfl, HR⟩
  case round =>
    obtain ⟨k, HK, hk', rfl, HR⟩ := hrel
    by_cases hlt : k < xs.length
    · obtain ⟨P, R, s, fu, hd, hm, hpr, hop, hcn, hbl⟩ := HR.out
      clear HR
      obtain ⟨v0, v1, v2, v3, v4, v5, v6⟩ := HV.out k hlt
      obtain ⟨⟨kd, at_, nn, y, kp⟩, hA⟩ : ∃ A, A = xs[k] := ⟨_, rfl⟩
      rw [← hA] at v0 v1 v2 v3 v4 v5 v6
      simp only at v0 v1 v2 v3 v4 v5 v6
      have k0 := (hbl.cell (p := ⟨b, off + k * 5, none⟩) hb).trans v0
      have k1 := (hbl.cell (p := ⟨b, off + k * 5 + 1, none⟩) hb).trans v1
      have k2 := (hbl.cell (p := ⟨b, off + k * 5 + 2, none⟩) hb).trans v2
      have k3 := (hbl.cell (p := ⟨b, off + k * 5 + 3, none⟩) hb).trans v3
      have k4 := (hbl.cell (p := ⟨b, off + k * 5 + 4, none⟩) hb).trans v4
      clear v0 v1 v2 v3 v4 hA
      have HD0 := Lib.hid hd
      have HM0 := Lib.hid hm
      have HPR := Lib.hid hpr
      have HOP := Lib.hid hop
      have HC := Lib.hid hcn
      have HBL := Lib.hid hbl
      clear hd hm hpr hop hcn hbl
      obtain ⟨A, hAA⟩ : ∃ A, A = wr.heap.size := ⟨_, rfl⟩
      obtain ⟨wa, hwa⟩ : ∃ wa, wa = wr.alloc (.cells #[.int .i64 kd, .int .i64 at_, .int .i64 nn, .int .u8 (y.toNat : Int), .int .u64 (kp : Int)] 41) := ⟨_, rfl⟩
      have q1 : wa.cell? ⟨A, 1, none⟩ = some (.int .i64 at_) := by rw [hwa, hAA]; simp
      have q2 : wa.cell? ⟨A, 2, none⟩ = some (.int .i64 nn) := by rw [hwa, hAA]; simp
      have q3 : wa.cell? ⟨A, 3, none⟩ = some (.int .u8 (y.toNat : Int)) := by rw [hwa, hAA]; simp
      have q4 : wa.cell? ⟨A, 4, none⟩ = some (.int .u64 (kp : Int)) := by rw [hwa, hAA]; simp
      have HDa : Hid (Dsk wa w.heap.size P d f s fu) := by rw [hwa]; exact Lib.hid (HD0.out.alloc _)
      have HMa : Hid (DskR wa w.heap.size R m g s fu) := by rw [hwa]; exact Lib.hid (HM0.out.alloc _)
      have HBa : Hid (Below w.heap.size w wa) := by rw [hwa]; exact Lib.hid (HBL.out.alloc HBL.out.size _)
      have HSa : Hid (A < wa.heap.size) := by rw [hwa, hAA]; exact Lib.hid (by simp)
      have HNP : Hid (¬ P A) := Lib.hid (fun hp => by have := (HD0.out.lt _ hp).2; omega)
      have HNR : Hid (¬ R A) := Lib.hid (fun hp => by have := (HM0.out.lt _ hp).2; omega)
      have HAf : Hid (A ≠ f) := Lib.hid (fun e => by have := (HD0.out.lt f HD0.out.pd.2).2; omega)
      have HML : Hid (m < wa.heap.size) := Lib.hid (HMa.out.lt m HMa.out.rm.1).2
      have HNPm : Hid (¬ P m) := Lib.hid (fun hp => HPR.out m hp HM0.out.rm.1)
      have HCN : Hid (fu.count < 1000000) := Lib.hid (by have := HC.out; omega)
      have HLN : Hid (s.opn.length < 1000000) := Lib.hid (by have := HOP.out; omega)
      have HSZ : Hid (s.size ≤ 2000) := Lib.hid (by have := HD0.out.good.sz; omega)
      obtain ⟨mN, hmN⟩ : ∃ x : Nat, (x : Int) = min (max nn 0) 2000 := ⟨(min (max nn 0) 2000).toNat, by omega⟩
      have HMN := Lib.hid hmN
      clear hmN HD0 HM0 HBL
      by_cases h1 : kd = 1
      · subst h1
        have q0 := HMa.out.c0
        have HXX : Hid (same y s.size = same y s.size) := Lib.hid rfl
        go_wp2
        rw [← hwa, ← hAA]
        clear hwa hAA
        go_region_held3 (fun wx => wx.cell? ⟨A, 1, none⟩ = some (.int .i64 at_) ∧ wx.cell? ⟨A, 3, none⟩ = some (.int .u8 (y.toNat : Int)) ∧ wx.cell? ⟨m, 0, none⟩ = some (.int .i64 (s.size : Int))) (first | exact ⟨u1, u3, u0⟩ | exact ⟨t1, t3, t0⟩ | exact ⟨r1, r3, r0⟩ | exact ⟨p1, p3, p0⟩ | exact ⟨q1, q3, q0⟩) (first | (go_at_call 15; have hseen := hk9; refine (fill_any y s.size _ HSZ.out).mono ?_; rintro e w10 ⟨rfl, hb10⟩; have t1 := (hb10.cell (p := ⟨A, 1, none⟩) HSr.out).trans r1; have t3 := (hb10.cell (p := ⟨A, 3, none⟩) HSr.out).trans r3; have t0 := (hb10.cell (p := ⟨m, 0, none⟩) HMLr.out).trans r0) | (go_at_call 15; refine (fill_any y s.size _ HSZ.out).mono ?_; rintro e w8 ⟨rfl, hb8d⟩; have hb8 := under_drew hb8d; clear hb8d; have p1 := (hb8.cell (p := ⟨A, 1, none⟩) HSa.out).trans q1; have p3 := (hb8.cell (p := ⟨A, 3, none⟩) HSa.out).trans q3; have p0 := (hb8.cell (p := ⟨m, 0, none⟩) HML.out).trans q0) | (go_at_call 14; refine (write_D at_ (same y s.size) (HDa.out.under hb8) HCN.out HLN.out (Nat.le_trans HBa.out.size hb8.size)).mono ?_; rintro e w9 ⟨rfl, P9, hd9, hk9, hp9⟩; have r1 := (cell_stays hk9 (i := 1) (Nat.lt_of_lt_of_le HSa.out hb8.size) HNP.out).trans p1; have r3 := (cell_stays hk9 (i := 3) (Nat.lt_of_lt_of_le HSa.out hb8.size) HNP.out).trans p3; have r0 := (cell_stays hk9 (i := 0) (Nat.lt_of_lt_of_le HML.out hb8.size) HNPm.out).trans p0; have HSr : Hid (A < w9.heap.size) := Lib.hid (Nat.lt_of_lt_of_le HSa.out (Nat.le_trans hb8.size hk9.size)); have HMLr : Hid (m < w9.heap.size) := Lib.hid (Nat.lt_of_lt_of_le HML.out (Nat.le_trans hb8.size hk9.size)); have HM9 := Lib.hid ((HMa.out.under hb8).kept hk9 fun k h2 h1 => HPR.out k h1 h2); have HB9 := Lib.hid ((HBa.out.trans (hb8.mono HBa.out.size)).trans (hk9.below (fun k hk => (HDa.out.lt k hk).1) (Nat.le_trans HBa.out.size hb8.size)))) | (go_at_call 16; refine (mwrite_D at_ (same y s.size) (HM9.out.under hb10) HCN.out HLN.out (Nat.le_trans HB9.out.size hb10.size)).mono ?_; rintro e w11 ⟨rfl, R11, hd11, hk11, hp11⟩; have u1 := (cell_stays hk11 (i := 1) (Nat.lt_of_lt_of_le HSr.out hb10.size) HNR.out).trans t1; have u3 := (cell_stays hk11 (i := 3) (Nat.lt_of_lt_of_le HSr.out hb10.size) HNR.out).trans t3; have u0 := hd11.c0; rw [(wstate_len s fu at_ (same y s.size)).2.1] at u0))
        have hpr9 := apart_grow hp9 (fun k hk => ((HMa.out.under hb8).lt k hk).2) HPR.out
        have HD := Lib.hid ((hd9.under hb10).kept hk11 fun k h1 h2 => hpr9 k h1 h2)
        have HM := Lib.hid hd11
        have HDIS : Hid (∀ k, P9 k → ¬ R11 k) := Lib.hid (fun k h1 h2 => apart_grow hp11 (fun k hk => ((hd9.under hb10).lt k hk).2) (fun k h2 h1 => hpr9 k h1 h2) k h2 h1)
        have HBX := Lib.hid ((HB9.out.trans (hb10.mono HB9.out.size)).trans (hk11.below (fun k hk => (HM9.out.lt k hk).1) (Nat.le_trans HB9.out.size hb10.size)))
        have HOPN : Hid ((wstate s fu at_ (same y s.size)).opn.length ≤ k + 1) := Lib.hid (by have := (wstate_len s fu at_ (same y s.size)).2.2; have := HOP.out; omega)
        have HCNT : Hid ((wfuse s fu at_ (same y s.size)).count ≤ ((k + 1 : Nat) : Int)) := Lib.hid (by have := (wfuse_count s fu at_ (same y s.size)).2; have := HC.out; omega)
        obtain ⟨sx, hsx⟩ : ∃ x, x = wstate s fu at_ (same y s.size) := ⟨_, rfl⟩
        obtain ⟨fx, hfx⟩ : ∃ x, x = wfuse s fu at_ (same y s.size) := ⟨_, rfl⟩
        obtain ⟨Px, hPx⟩ : ∃ x, x = P9 := ⟨_, rfl⟩
        obtain ⟨Rx, hRx⟩ : ∃ x, x = R11 := ⟨_, rfl⟩
        rw [← hsx, ← hfx, ← hPx] at HD
        rw [← hsx, ← hfx, ← hRx] at HM
        rw [← hPx, ← hRx] at HDIS
        rw [← hsx] at HOPN
        rw [← hfx] at HCNT
        clear hsx hfx hPx hRx hpr9 hd9 hk9 hp9 hd11 hk11 hp11 hb8 hb10 p1 p3 p0 q1 q2 q3 q4 r1 r3 r0 t1 t3 t0 u1 u3 u0 HDa HMa HBa HSr HMLr HM9 HB9
        obtain ⟨ma, mc, m3⟩ := HM.out.c3
        have g2 := HM.out.fz.c2
        have g3 := HM.out.fz.c3
        go_wp2
        go_quiet (first | (go_at_call 23; exact open_q HD.out _) | (go_at_call 24; exact blown_q HD.out _) | (go_at_call 25; exact count_q HD.out _))
        obtain ⟨W, hW⟩ : ∃ W, W = w11.drewN nq := ⟨_, rfl⟩
        rw [← hW]
        have HDW : Hid (Dsk W w.heap.size Px d f sx fx) := by rw [hW]; exact Lib.hid (HD.out.drewN nq)
        have HMW : Hid (DskR W w.heap.size Rx m g sx fx) := by rw [hW]; exact Lib.hid (HM.out.drewN nq)
        have HBW : Hid (Below w.heap.size w W) := by rw [hW]; exact Lib.hid (below_drewN HBX.out nq)
        clear hW m3 g2 g3 HD HM HBX
        obtain ⟨N, hN⟩ : ∃ N, N = sx.now.length := ⟨_, rfl⟩
        obtain ⟨na, nc, m2⟩ := HMW.out.c2
        rw [← hN] at m2
        have hN1 : N ≤ 1024 := by rw [hN]; exact HMW.out.good.n1
        clear hN
        go_wp2
        go_loopg [191] (N + 1) (fun gg i wq => ∃ j : Nat, Hid (gg = N + 1 - j) ∧ j ≤ N + 1 ∧ i = .int .i64 (j : Int) ∧ W = wq)
        case atStart => exact ⟨0, Lib.hid rfl, Nat.zero_le _, rfl, rfl⟩
        case round =>
          obtain ⟨j, HJ, hj, rfl, rfl⟩ := hrel
          by_cases hjl : j < N + 1
          · have hji : (j : Int) < (N : Int) + 1 := by omega
            go_wp2_with fail
            refine (read_D j HDW.out).mono ?_
            rintro e w' ⟨rfl, rfl⟩
            obtain ⟨x1, hx1⟩ : ∃ x, x = rstr sx j := ⟨_, rfl⟩
            obtain ⟨x2, hx2⟩ : ∃ x, x = rcode sx j := ⟨_, rfl⟩
            rw [← hx1, ← hx2]
            have HX1 := Lib.hid hx1
            have HX2 := Lib.hid hx2
            clear hx1 hx2
            go_wp2_with fail
            refine (mread_D j HMW.out).mono ?_
            rintro e w' ⟨rfl, rfl⟩
            rw [← HX1.out, ← HX2.out]
            go_wp2
            go_roundg (N + 1 - (j + 1))
            case measure => have := HJ.out; omega
            case rel => exact ⟨j + 1, Lib.hid rfl, by omega, by go_num, rfl⟩
          · obtain rfl : j = N + 1 := by omega
            go_wp2
            go_roundg (xs.length - (k + 1))
            case measure => have := HK.out; omega
            case rel => exact ⟨k + 1, Lib.hid rfl, by omega, by go_num, Lib.hid ⟨Px, Rx, sx, fx, HDW.out, HMW.out, HDIS.out, HOPN.out, HCNT.out, HBW.out⟩⟩
      by_cases h2 : kd = 2
      · subst h2
        go_wp2_with fail
        rw [← hwa]
        clear hwa hAA
        refine (flush_D HDa.out HCN.out HLN.out).mono ?_
        rintro e w8 ⟨rfl, hd8, hk8⟩
        have HM8 := Lib.hid (HMa.out.kept hk8 fun k h2 h1 => HPR.out k h1 h2)
        have HB8 := Lib.hid (HBa.out.trans (hk8.below (fun k hk => (HDa.out.lt k hk).1) HBa.out.size))
        have HD8 := Lib.hid hd8
        clear hd8 hk8
        obtain ⟨fc, hfc⟩ : ∃ x, x = fcode fu := ⟨_, rfl⟩
        rw [← hfc]
        have HFC := Lib.hid hfc
        clear hfc
        go_wp2_with fail
        refine (mflush_D HM8.out HCN.out).mono ?_
        rintro e w9 ⟨rfl, hd9, hk9⟩
        rw [← HFC.out]
        have HD := Lib.hid (HD8.out.kept hk9 fun k h1 h2 => HPR.out k h1 h2)
        have HM := Lib.hid hd9
        have HBX := Lib.hid (HB8.out.trans (hk9.below (fun k hk => (HM8.out.lt k hk).1) HB8.out.size))
        have HDIS : Hid (∀ k, P k → ¬ R k) := HPR
        clear hd9 hk9
        have HOPN : Hid ((fstate s fu).opn.length ≤ k + 1) := Lib.hid (by unfold fstate; split; (exact Nat.zero_le _); (exact Nat.le_succ_of_le HOP.out))
        have HCNT : Hid ((fu.spent).count ≤ ((k + 1 : Nat) : Int)) := Lib.hid (by have := fu.spent_count.2; have := HC.out; omega)
        obtain ⟨sx, hsx⟩ : ∃ x, x = fstate s fu := ⟨_, rfl⟩
        obtain ⟨fx, hfx⟩ : ∃ x, x = fu.spent := ⟨_, rfl⟩
        obtain ⟨Px, hPx⟩ : ∃ x, x = P := ⟨_, rfl⟩
        obtain ⟨Rx, hRx⟩ : ∃ x, x = R := ⟨_, rfl⟩
        rw [← hsx, ← hfx, ← hPx] at HD
        rw [← hsx, ← hfx, ← hRx] at HM
        rw [← hPx, ← hRx] at HDIS
        rw [← hsx] at HOPN
        rw [← hfx] at HCNT
        clear hsx hfx hPx hRx HD8 HM8 HB8 HDa HMa HBa q1 q2 q3 q4
        obtain ⟨ma, mc, m3⟩ := HM.out.c3
        have g2 := HM.out.fz.c2
        have g3 := HM.out.fz.c3
        go_wp2
        go_quiet (first | (go_at_call 23; exact open_q HD.out _) | (go_at_call 24; exact blown_q HD.out _) | (go_at_call 25; exact count_q HD.out _))
        obtain ⟨W, hW⟩ : ∃ W, W = w9.drewN nq := ⟨_, rfl⟩
        rw [← hW]
        have HDW : Hid (Dsk W w.heap.size Px d f sx fx) := by rw [hW]; exact Lib.hid (HD.out.drewN nq)
        have HMW : Hid (DskR W w.heap.size Rx m g sx fx) := by rw [hW]; exact Lib.hid (HM.out.drewN nq)
        have HBW : Hid (Below w.heap.size w W) := by rw [hW]; exact Lib.hid (below_drewN HBX.out nq)
        clear hW m3 g2 g3 HD HM HBX
        obtain ⟨N, hN⟩ : ∃ N, N = sx.now.length := ⟨_, rfl⟩
        obtain ⟨na, nc, m2⟩ := HMW.out.c2
        rw [← hN] at m2
        have hN1 : N ≤ 1024 := by rw [hN]; exact HMW.out.good.n1
        clear hN
        go_wp2
        go_loopg [191] (N + 1) (fun gg i wq => ∃ j : Nat, Hid (gg = N + 1 - j) ∧ j ≤ N + 1 ∧ i = .int .i64 (j : Int) ∧ W = wq)
        case atStart => exact ⟨0, Lib.hid rfl, Nat.zero_le _, rfl, rfl⟩
        case round =>
          obtain ⟨j, HJ, hj, rfl, rfl⟩ := hrel
          by_cases hjl : j < N + 1
          · have hji : (j : Int) < (N : Int) + 1 := by omega
            go_wp2_with fail
            refine (read_D j HDW.out).mono ?_
            rintro e w' ⟨rfl, rfl⟩
            obtain ⟨x1, hx1⟩ : ∃ x, x = rstr sx j := ⟨_, rfl⟩
            obtain ⟨x2, hx2⟩ : ∃ x, x = rcode sx j := ⟨_, rfl⟩
            rw [← hx1, ← hx2]
            have HX1 := Lib.hid hx1
            have HX2 := Lib.hid hx2
            clear hx1 hx2
            go_wp2_with fail
            refine (mread_D j HMW.out).mono ?_
            rintro e w' ⟨rfl, rfl⟩
            rw [← HX1.out, ← HX2.out]
            go_wp2
            go_roundg (N + 1 - (j + 1))
            case measure => have := HJ.out; omega
            case rel => exact ⟨j + 1, Lib.hid rfl, by omega, by go_num, rfl⟩
          · obtain rfl : j = N + 1 := by omega
            go_wp2
            go_roundg (xs.length - (k + 1))
            case measure => have := HK.out; omega
            case rel => exact ⟨k + 1, Lib.hid rfl, by omega, by go_num, Lib.hid ⟨Px, Rx, sx, fx, HDW.out, HMW.out, HDIS.out, HOPN.out, HCNT.out, HBW.out⟩⟩
      by_cases h3 : kd = 3
      · subst h3
        go_wp2_with fail
        rw [← hwa, ← hAA]
        clear hwa hAA
        refine (crash_D kp nn v6 HDa.out HLN.out).mono ?_
        rintro e w8 ⟨rfl, hd8, hk8⟩
        have r2 := (cell_stays hk8 (i := 2) HSa.out HNP.out).trans q2
        have r4 := (cell_stays hk8 (i := 4) HSa.out HNP.out).trans q4
        have HM8 := Lib.hid (HMa.out.kept hk8 fun k h2 h1 => HPR.out k h1 h2)
        have HB8 := Lib.hid (HBa.out.trans (hk8.below (fun k hk => (HDa.out.lt k hk).1) HBa.out.size))
        have HD8 := Lib.hid hd8
        clear hd8 hk8
        go_wp2_with fail
        refine (mcrash_D kp nn v6 HM8.out HLN.out HB8.out.size).mono ?_
        rintro e w9 ⟨rfl, R9, hd9, hk9, hp9⟩
        have HD := Lib.hid (HD8.out.kept hk9 fun k h1 h2 => HPR.out k h1 h2)
        have HM := Lib.hid hd9
        have HBX := Lib.hid (HB8.out.trans (hk9.below (fun k hk => (HM8.out.lt k hk).1) HB8.out.size))
        have HDIS : Hid (∀ k, P k → ¬ R9 k) := Lib.hid (fun k h1 h2 => apart_grow hp9 (fun k hk => (HD8.out.lt k hk).2) (fun k h2 h1 => HPR.out k h1 h2) k h2 h1)
        clear hd9 hk9 hp9 r2 r4
        have HOPN : Hid ((s.crash kp (cut nn s.size)).opn.length ≤ k + 1) := Lib.hid (Nat.zero_le _)
        have HCNT : Hid ((fu.reset).count ≤ ((k + 1 : Nat) : Int)) := Lib.hid (by have := HC.out; show fu.count ≤ _; omega)
        obtain ⟨sx, hsx⟩ : ∃ x, x = s.crash kp (cut nn s.size) := ⟨_, rfl⟩
        obtain ⟨fx, hfx⟩ : ∃ x, x = fu.reset := ⟨_, rfl⟩
        obtain ⟨Px, hPx⟩ : ∃ x, x = P := ⟨_, rfl⟩
        obtain ⟨Rx, hRx⟩ : ∃ x, x = R9 := ⟨_, rfl⟩
        rw [← hsx, ← hfx, ← hPx] at HD
        rw [← hsx, ← hfx, ← hRx] at HM
        rw [← hPx, ← hRx] at HDIS
        rw [← hsx] at HOPN
        rw [← hfx] at HCNT
        clear hsx hfx hPx hRx HD8 HM8 HB8 HDa HMa HBa q1 q2 q3 q4
        obtain ⟨ma, mc, m3⟩ := HM.out.c3
        have g2 := HM.out.fz.c2
        have g3 := HM.out.fz.c3
        go_wp2
        go_quiet (first | (go_at_call 23; exact open_q HD.out _) | (go_at_call 24; exact blown_q HD.out _) | (go_at_call 25; exact count_q HD.out _))
        obtain ⟨W, hW⟩ : ∃ W, W = w9.drewN nq := ⟨_, rfl⟩
        rw [← hW]
        have HDW : Hid (Dsk W w.heap.size Px d f sx fx) := by rw [hW]; exact Lib.hid (HD.out.drewN nq)
        have HMW : Hid (DskR W w.heap.size Rx m g sx fx) := by rw [hW]; exact Lib.hid (HM.out.drewN nq)
        have HBW : Hid (Below w.heap.size w W) := by rw [hW]; exact Lib.hid (below_drewN HBX.out nq)
        clear hW m3 g2 g3 HD HM HBX
        obtain ⟨N, hN⟩ : ∃ N, N = sx.now.length := ⟨_, rfl⟩
        obtain ⟨na, nc, m2⟩ := HMW.out.c2
        rw [← hN] at m2
        have hN1 : N ≤ 1024 := by rw [hN]; exact HMW.out.good.n1
        clear hN
        go_wp2
        go_loopg [191] (N + 1) (fun gg i wq => ∃ j : Nat, Hid (gg = N + 1 - j) ∧ j ≤ N + 1 ∧ i = .int .i64 (j : Int) ∧ W = wq)
        case atStart => exact ⟨0, Lib.hid rfl, Nat.zero_le _, rfl, rfl⟩
        case round =>
          obtain ⟨j, HJ, hj, rfl, rfl⟩ := hrel
          by_cases hjl : j < N + 1
          · have hji : (j : Int) < (N : Int) + 1 := by omega
            go_wp2_with fail
            refine (read_D j HDW.out).mono ?_
            rintro e w' ⟨rfl, rfl⟩
            obtain ⟨x1, hx1⟩ : ∃ x, x = rstr sx j := ⟨_, rfl⟩
            obtain ⟨x2, hx2⟩ : ∃ x, x = rcode sx j := ⟨_, rfl⟩
            rw [← hx1, ← hx2]
            have HX1 := Lib.hid hx1
            have HX2 := Lib.hid hx2
            clear hx1 hx2
            go_wp2_with fail
            refine (mread_D j HMW.out).mono ?_
            rintro e w' ⟨rfl, rfl⟩
            rw [← HX1.out, ← HX2.out]
            go_wp2
            go_roundg (N + 1 - (j + 1))
            case measure => have := HJ.out; omega
            case rel => exact ⟨j + 1, Lib.hid rfl, by omega, by go_num, rfl⟩
          · obtain rfl : j = N + 1 := by omega
            go_wp2
            go_roundg (xs.length - (k + 1))
            case measure => have := HK.out; omega
            case rel => exact ⟨k + 1, Lib.hid rfl, by omega, by go_num, Lib.hid ⟨Px, Rx, sx, fx, HDW.out, HMW.out, HDIS.out, HOPN.out, HCNT.out, HBW.out⟩⟩
      by_cases h4 : kd = 4
      · subst h4
        go_wp2_with fail
        rw [← hwa, ← hAA]
        clear hwa hAA
        refine (arm_any f nn _ _ HDa.out.fz).mono ?_
        rintro e w8 ⟨rfl, hz8, ho8⟩
        have r2 := (cell_only ho8 (i := 2) HAf.out).trans q2
        have HD8 := Lib.hid (HDa.out.fuse (show Fz w8 f 59 (fu.arm nn) from hz8) ho8 (HDa.out.fgood.arm nn v5))
        have HM8 := Lib.hid (HMa.out.kept ((Kept.refl P wa).only ho8 fun _ => HDa.out.pd.2) fun k h2 h1 => HPR.out k h1 h2)
        have HB8 := Lib.hid (ho8.below HBa.out (HDa.out.lt f HDa.out.pd.2).1)
        clear hz8 ho8
        go_wp2_with fail
        refine (marm_R nn HM8.out.fz).mono ?_
        rintro e w9 ⟨rfl, hz9, ho9⟩
        have HM := Lib.hid (HM8.out.fuse hz9 ho9 (HDa.out.fgood.arm nn v5))
        have HD := Lib.hid (HD8.out.kept ((Kept.refl R w8).only ho9 fun _ => HM8.out.rm.2) fun k h1 h2 => HPR.out k h1 h2)
        have HBX := Lib.hid (ho9.below HB8.out (HM8.out.lt g HM8.out.rm.2).1)
        have HDIS : Hid (∀ k, P k → ¬ R k) := HPR
        clear hz9 ho9 r2
        have HOPN : Hid ((s).opn.length ≤ k + 1) := Lib.hid (Nat.le_succ_of_le HOP.out)
        have HCNT : Hid ((fu.arm nn).count ≤ ((k + 1 : Nat) : Int)) := Lib.hid (by have := HC.out; show fu.count ≤ _; omega)
        obtain ⟨sx, hsx⟩ : ∃ x, x = s := ⟨_, rfl⟩
        obtain ⟨fx, hfx⟩ : ∃ x, x = fu.arm nn := ⟨_, rfl⟩
        obtain ⟨Px, hPx⟩ : ∃ x, x = P := ⟨_, rfl⟩
        obtain ⟨Rx, hRx⟩ : ∃ x, x = R := ⟨_, rfl⟩
        rw [← hsx, ← hfx, ← hPx] at HD
        rw [← hsx, ← hfx, ← hRx] at HM
        rw [← hPx, ← hRx] at HDIS
        rw [← hsx] at HOPN
        rw [← hfx] at HCNT
        clear hsx hfx hPx hRx HD8 HM8 HB8 HDa HMa HBa q1 q2 q3 q4
        obtain ⟨ma, mc, m3⟩ := HM.out.c3
        have g2 := HM.out.fz.c2
        have g3 := HM.out.fz.c3
        go_wp2
        go_quiet (first | (go_at_call 23; exact open_q HD.out _) | (go_at_call 24; exact blown_q HD.out _) | (go_at_call 25; exact count_q HD.out _))
        obtain ⟨W, hW⟩ : ∃ W, W = w9.drewN nq := ⟨_, rfl⟩
        rw [← hW]
        have HDW : Hid (Dsk W w.heap.size Px d f sx fx) := by rw [hW]; exact Lib.hid (HD.out.drewN nq)
        have HMW : Hid (DskR W w.heap.size Rx m g sx fx) := by rw [hW]; exact Lib.hid (HM.out.drewN nq)
        have HBW : Hid (Below w.heap.size w W) := by rw [hW]; exact Lib.hid (below_drewN HBX.out nq)
        clear hW m3 g2 g3 HD HM HBX
        obtain ⟨N, hN⟩ : ∃ N, N = sx.now.length := ⟨_, rfl⟩
        obtain ⟨na, nc, m2⟩ := HMW.out.c2
        rw [← hN] at m2
        have hN1 : N ≤ 1024 := by rw [hN]; exact HMW.out.good.n1
        clear hN
        go_wp2
        go_loopg [191] (N + 1) (fun gg i wq => ∃ j : Nat, Hid (gg = N + 1 - j) ∧ j ≤ N + 1 ∧ i = .int .i64 (j : Int) ∧ W = wq)
        case atStart => exact ⟨0, Lib.hid rfl, Nat.zero_le _, rfl, rfl⟩
        case round =>
          obtain ⟨j, HJ, hj, rfl, rfl⟩ := hrel
          by_cases hjl : j < N + 1
          · have hji : (j : Int) < (N : Int) + 1 := by omega
            go_wp2_with fail
            refine (read_D j HDW.out).mono ?_
            rintro e w' ⟨rfl, rfl⟩
            obtain ⟨x1, hx1⟩ : ∃ x, x = rstr sx j := ⟨_, rfl⟩
            obtain ⟨x2, hx2⟩ : ∃ x, x = rcode sx j := ⟨_, rfl⟩
            rw [← hx1, ← hx2]
            have HX1 := Lib.hid hx1
            have HX2 := Lib.hid hx2
            clear hx1 hx2
            go_wp2_with fail
            refine (mread_D j HMW.out).mono ?_
            rintro e w' ⟨rfl, rfl⟩
            rw [← HX1.out, ← HX2.out]
            go_wp2
            go_roundg (N + 1 - (j + 1))
            case measure => have := HJ.out; omega
            case rel => exact ⟨j + 1, Lib.hid rfl, by omega, by go_num, rfl⟩
          · obtain rfl : j = N + 1 := by omega
            go_wp2
            go_roundg (xs.length - (k + 1))
            case measure => have := HK.out; omega
            case rel => exact ⟨k + 1, Lib.hid rfl, by omega, by go_num, Lib.hid ⟨Px, Rx, sx, fx, HDW.out, HMW.out, HDIS.out, HOPN.out, HCNT.out, HBW.out⟩⟩
      by_cases h5 : kd = 5
      · subst h5

        have HXX : Hid (same y mN = same y mN) := Lib.hid rfl
        go_wp2
        rw [← hwa, ← hAA]
        clear hwa hAA
        go_region_held3 (fun wx => wx.cell? ⟨A, 1, none⟩ = some (.int .i64 at_) ∧ wx.cell? ⟨A, 3, none⟩ = some (.int .u8 (y.toNat : Int)) ∧ wx.cell? ⟨A, 2, none⟩ = some (.int .i64 nn)) (first | exact ⟨u1, u3, u0⟩ | exact ⟨t1, t3, t0⟩ | exact ⟨r1, r3, r0⟩ | exact ⟨p1, p3, p0⟩ | exact ⟨q1, q3, q2⟩) (first | (go_at_call 15; have hseen := hk9; refine (fill_int y nn mN _ HMN.out).mono ?_; rintro e w10 ⟨rfl, hb10⟩; have t1 := (hb10.cell (p := ⟨A, 1, none⟩) HSr.out).trans r1; have t3 := (hb10.cell (p := ⟨A, 3, none⟩) HSr.out).trans r3; have t0 := (hb10.cell (p := ⟨A, 2, none⟩) HSr.out).trans r0) | (go_at_call 15; refine (fill_int y nn mN _ HMN.out).mono ?_; rintro e w8 ⟨rfl, hb8d⟩; have hb8 := under_drew hb8d; clear hb8d; have p1 := (hb8.cell (p := ⟨A, 1, none⟩) HSa.out).trans q1; have p3 := (hb8.cell (p := ⟨A, 3, none⟩) HSa.out).trans q3; have p0 := (hb8.cell (p := ⟨A, 2, none⟩) HSa.out).trans q2) | (go_at_call 14; refine (write_D at_ (same y mN) (HDa.out.under hb8) HCN.out HLN.out (Nat.le_trans HBa.out.size hb8.size)).mono ?_; rintro e w9 ⟨rfl, P9, hd9, hk9, hp9⟩; have r1 := (cell_stays hk9 (i := 1) (Nat.lt_of_lt_of_le HSa.out hb8.size) HNP.out).trans p1; have r3 := (cell_stays hk9 (i := 3) (Nat.lt_of_lt_of_le HSa.out hb8.size) HNP.out).trans p3; have r0 := (cell_stays hk9 (i := 2) (Nat.lt_of_lt_of_le HSa.out hb8.size) HNP.out).trans p0; have HSr : Hid (A < w9.heap.size) := Lib.hid (Nat.lt_of_lt_of_le HSa.out (Nat.le_trans hb8.size hk9.size)); have HMLr : Hid (m < w9.heap.size) := Lib.hid (Nat.lt_of_lt_of_le HML.out (Nat.le_trans hb8.size hk9.size)); have HM9 := Lib.hid ((HMa.out.under hb8).kept hk9 fun k h2 h1 => HPR.out k h1 h2); have HB9 := Lib.hid ((HBa.out.trans (hb8.mono HBa.out.size)).trans (hk9.below (fun k hk => (HDa.out.lt k hk).1) (Nat.le_trans HBa.out.size hb8.size)))) | (go_at_call 16; refine (mwrite_D at_ (same y mN) (HM9.out.under hb10) HCN.out HLN.out (Nat.le_trans HB9.out.size hb10.size)).mono ?_; rintro e w11 ⟨rfl, R11, hd11, hk11, hp11⟩; have u1 := (cell_stays hk11 (i := 1) (Nat.lt_of_lt_of_le HSr.out hb10.size) HNR.out).trans t1; have u3 := (cell_stays hk11 (i := 3) (Nat.lt_of_lt_of_le HSr.out hb10.size) HNR.out).trans t3; have u0 := (cell_stays hk11 (i := 2) (Nat.lt_of_lt_of_le HSa.out (Nat.le_trans hb8.size (Nat.le_trans hk9.size hb10.size))) HNR.out).trans t0))
        have hpr9 := apart_grow hp9 (fun k hk => ((HMa.out.under hb8).lt k hk).2) HPR.out
        have HD := Lib.hid ((hd9.under hb10).kept hk11 fun k h1 h2 => hpr9 k h1 h2)
        have HM := Lib.hid hd11
        have HDIS : Hid (∀ k, P9 k → ¬ R11 k) := Lib.hid (fun k h1 h2 => apart_grow hp11 (fun k hk => ((hd9.under hb10).lt k hk).2) (fun k h2 h1 => hpr9 k h1 h2) k h2 h1)
        have HBX := Lib.hid ((HB9.out.trans (hb10.mono HB9.out.size)).trans (hk11.below (fun k hk => (HM9.out.lt k hk).1) (Nat.le_trans HB9.out.size hb10.size)))
        have HOPN : Hid ((wstate s fu at_ (same y mN)).opn.length ≤ k + 1) := Lib.hid (by have := (wstate_len s fu at_ (same y mN)).2.2; have := HOP.out; omega)
        have HCNT : Hid ((wfuse s fu at_ (same y mN)).count ≤ ((k + 1 : Nat) : Int)) := Lib.hid (by have := (wfuse_count s fu at_ (same y mN)).2; have := HC.out; omega)
        obtain ⟨sx, hsx⟩ : ∃ x, x = wstate s fu at_ (same y mN) := ⟨_, rfl⟩
        obtain ⟨fx, hfx⟩ : ∃ x, x = wfuse s fu at_ (same y mN) := ⟨_, rfl⟩
        obtain ⟨Px, hPx⟩ : ∃ x, x = P9 := ⟨_, rfl⟩
        obtain ⟨Rx, hRx⟩ : ∃ x, x = R11 := ⟨_, rfl⟩
        rw [← hsx, ← hfx, ← hPx] at HD
        rw [← hsx, ← hfx, ← hRx] at HM
        rw [← hPx, ← hRx] at HDIS
        rw [← hsx] at HOPN
        rw [← hfx] at HCNT
        clear hsx hfx hPx hRx hpr9 hd9 hk9 hp9 hd11 hk11 hp11 hb8 hb10 p1 p3 p0 q1 q2 q3 q4 r1 r3 r0 t1 t3 t0 u1 u3 u0 HDa HMa HBa HSr HMLr HM9 HB9
        obtain ⟨ma, mc, m3⟩ := HM.out.c3
        have g2 := HM.out.fz.c2
        have g3 := HM.out.fz.c3
        go_wp2
        go_quiet (first | (go_at_call 23; exact open_q HD.out _) | (go_at_call 24; exact blown_q HD.out _) | (go_at_call 25; exact count_q HD.out _))
        obtain ⟨W, hW⟩ : ∃ W, W = w11.drewN nq := ⟨_, rfl⟩
        rw [← hW]
        have HDW : Hid (Dsk W w.heap.size Px d f sx fx) := by rw [hW]; exact Lib.hid (HD.out.drewN nq)
        have HMW : Hid (DskR W w.heap.size Rx m g sx fx) := by rw [hW]; exact Lib.hid (HM.out.drewN nq)
        have HBW : Hid (Below w.heap.size w W) := by rw [hW]; exact Lib.hid (below_drewN HBX.out nq)
        clear hW m3 g2 g3 HD HM HBX
        obtain ⟨N, hN⟩ : ∃ N, N = sx.now.length := ⟨_, rfl⟩
        obtain ⟨na, nc, m2⟩ := HMW.out.c2
        rw [← hN] at m2
        have hN1 : N ≤ 1024 := by rw [hN]; exact HMW.out.good.n1
        clear hN
        go_wp2
        go_loopg [191] (N + 1) (fun gg i wq => ∃ j : Nat, Hid (gg = N + 1 - j) ∧ j ≤ N + 1 ∧ i = .int .i64 (j : Int) ∧ W = wq)
        case atStart => exact ⟨0, Lib.hid rfl, Nat.zero_le _, rfl, rfl⟩
        case round =>
          obtain ⟨j, HJ, hj, rfl, rfl⟩ := hrel
          by_cases hjl : j < N + 1
          · have hji : (j : Int) < (N : Int) + 1 := by omega
            go_wp2_with fail
            refine (read_D j HDW.out).mono ?_
            rintro e w' ⟨rfl, rfl⟩
            obtain ⟨x1, hx1⟩ : ∃ x, x = rstr sx j := ⟨_, rfl⟩
            obtain ⟨x2, hx2⟩ : ∃ x, x = rcode sx j := ⟨_, rfl⟩
            rw [← hx1, ← hx2]
            have HX1 := Lib.hid hx1
            have HX2 := Lib.hid hx2
            clear hx1 hx2
            go_wp2_with fail
            refine (mread_D j HMW.out).mono ?_
            rintro e w' ⟨rfl, rfl⟩
            rw [← HX1.out, ← HX2.out]
            go_wp2
            go_roundg (N + 1 - (j + 1))
            case measure => have := HJ.out; omega
            case rel => exact ⟨j + 1, Lib.hid rfl, by omega, by go_num, rfl⟩
          · obtain rfl : j = N + 1 := by omega
            go_wp2
            go_roundg (xs.length - (k + 1))
            case measure => have := HK.out; omega
            case rel => exact ⟨k + 1, Lib.hid rfl, by omega, by go_num, Lib.hid ⟨Px, Rx, sx, fx, HDW.out, HMW.out, HDIS.out, HOPN.out, HCNT.out, HBW.out⟩⟩
      have j1 : (kd == 1) = false := by rw [beq_eq_false_iff_ne]; exact h1
      have j2 : (kd == 2) = false := by rw [beq_eq_false_iff_ne]; exact h2
      have j3 : (kd == 3) = false := by rw [beq_eq_false_iff_ne]; exact h3
      have j4 : (kd == 4) = false := by rw [beq_eq_false_iff_ne]; exact h4
      have j5 : (kd == 5) = false := by rw [beq_eq_false_iff_ne]; exact h5
      have HD := HDa
      have HM := HMa
      have HBX := HBa
      have HDIS := HPR
      have HOPN : Hid ((s).opn.length ≤ k + 1) := Lib.hid (Nat.le_succ_of_le HOP.out)
      have HCNT : Hid ((fu).count ≤ ((k + 1 : Nat) : Int)) := Lib.hid (by have := HC.out; omega)
      obtain ⟨sx, hsx⟩ : ∃ x, x = s := ⟨_, rfl⟩
      obtain ⟨fx, hfx⟩ : ∃ x, x = fu := ⟨_, rfl⟩
      obtain ⟨Px, hPx⟩ : ∃ x, x = P := ⟨_, rfl⟩
      obtain ⟨Rx, hRx⟩ : ∃ x, x = R := ⟨_, rfl⟩
      rw [← hsx, ← hfx, ← hPx] at HD
      rw [← hsx, ← hfx, ← hRx] at HM
      rw [← hPx, ← hRx] at HDIS
      rw [← hsx] at HOPN
      rw [← hfx] at HCNT
      clear hsx hfx hPx hRx HDa HMa HBa q1 q2 q3 q4
      obtain ⟨ma, mc, m3⟩ := HM.out.c3
      have g2 := HM.out.fz.c2
      have g3 := HM.out.fz.c3
      go_wp2
      rw [← hwa]
      clear hwa hAA
      go_quiet (first | (go_at_call 23; exact open_q HD.out _) | (go_at_call 24; exact blown_q HD.out _) | (go_at_call 25; exact count_q HD.out _))
      obtain ⟨W, hW⟩ : ∃ W, W = wa.drewN nq := ⟨_, rfl⟩
      rw [← hW]
      have HDW : Hid (Dsk W w.heap.size Px d f sx fx) := by rw [hW]; exact Lib.hid (HD.out.drewN nq)
      have HMW : Hid (DskR W w.heap.size Rx m g sx fx) := by rw [hW]; exact Lib.hid (HM.out.drewN nq)
      have HBW : Hid (Below w.heap.size w W) := by rw [hW]; exact Lib.hid (below_drewN HBX.out nq)
      clear hW m3 g2 g3 HD HM HBX
      obtain ⟨N, hN⟩ : ∃ N, N = sx.now.length := ⟨_, rfl⟩
      obtain ⟨na, nc, m2⟩ := HMW.out.c2
      rw [← hN] at m2
      have hN1 : N ≤ 1024 := by rw [hN]; exact HMW.out.good.n1
      clear hN
      go_wp2
      go_loopg [191] (N + 1) (fun gg i wq => ∃ j : Nat, Hid (gg = N + 1 - j) ∧ j ≤ N + 1 ∧ i = .int .i64 (j : Int) ∧ W = wq)
      case atStart => exact ⟨0, Lib.hid rfl, Nat.zero_le _, rfl, rfl⟩
      case round =>
        obtain ⟨j, HJ, hj, rfl, rfl⟩ := hrel
        by_cases hjl : j < N + 1
        · have hji : (j : Int) < (N : Int) + 1 := by omega
          go_wp2_with fail
          refine (read_D j HDW.out).mono ?_
          rintro e w' ⟨rfl, rfl⟩
          obtain ⟨x1, hx1⟩ : ∃ x, x = rstr sx j := ⟨_, rfl⟩
          obtain ⟨x2, hx2⟩ : ∃ x, x = rcode sx j := ⟨_, rfl⟩
          rw [← hx1, ← hx2]
          have HX1 := Lib.hid hx1
          have HX2 := Lib.hid hx2
          clear hx1 hx2
          go_wp2_with fail
          refine (mread_D j HMW.out).mono ?_
          rintro e w' ⟨rfl, rfl⟩
          rw [← HX1.out, ← HX2.out]
          go_wp2
          go_roundg (N + 1 - (j + 1))
          case measure => have := HJ.out; omega
          case rel => exact ⟨j + 1, Lib.hid rfl, by omega, by go_num, rfl⟩
        · obtain rfl : j = N + 1 := by omega
          go_wp2
          go_roundg (xs.length - (k + 1))
          case measure => have := HK.out; omega
          case rel => exact ⟨k + 1, Lib.hid rfl, by omega, by go_num, Lib.hid ⟨Px, Rx, sx, fx, HDW.out, HMW.out, HDIS.out, HOPN.out, HCNT.out, HBW.out⟩⟩
    · go_wp2
      go_ret
      obtain ⟨P, R, s, fu, hd, hm, hpr, hop, hcn, hbl⟩ := HR.out
      exact ⟨rfl, hbl⟩
end Go.Proofs.Ytffnalnceceinaa.diskPlays
