/-
  switchback's WalPlays: in every order of calls a log tells what the document's own log tells, whatever crashes, and whatever the fuse bears. For every input the call returns true, and each argument reads afterwards as it read before. No condition.
-/
import Derived.Test.YtooikkjgcpngdaaWalPlaysA
namespace Go.Proofs.Ytooikkjgcpngdaa.walPlays
open Go.ChangeShapes Go.WideShapes Go.ChangeAt Go.RowKit
open Fr (Rec secB valL lenV)

set_option maxRecDepth 100000 in
set_option maxHeartbeats 4000000 in
theorem walk_great (a0 a1 : Int) (A : Option Addr) (c : Nat) (xs : List Ac) (w : World) (hx : ActsX w (.slice A xs.length c) xs) (hg : greatB a1 xs = true) : Calls Try.prog 3 #[.agg #[.int .i64 a0, .int .i64 a1], .slice A xs.length c] w (Holds w) := by
  have HX := Lib.hid hx
  have HGV := Lib.hid hg
  clear hx hg
  go_enter Try.func3, Try.ntmps3
  obtain ⟨Z, hZ⟩ : ∃ Z, Z = w.heap.size := ⟨_, rfl⟩
  obtain ⟨wz, hwz⟩ : ∃ wz, wz = w.alloc (.cells #[.int .i64 a0, .int .i64 a1] 22) := ⟨_, rfl⟩
  have z0 : wz.cell? ⟨Z, 0, none⟩ = some (.int .i64 a0) := by rw [hwz, hZ]; simp
  have z1 : wz.cell? ⟨Z, 1, none⟩ = some (.int .i64 a1) := by rw [hwz, hZ]; simp
  have HZB : Hid (wz.heap[Z]? = some (.cells #[.int .i64 a0, .int .i64 a1] 22)) := by rw [hwz, hZ]; exact Lib.hid (heap_alloc_new w _)
  have HBz : Hid (Below w.heap.size w wz) := by rw [hwz]; exact Lib.hid ((Below.refl _ _).alloc (Nat.le_refl _) _)
  have HSz : Hid (Z < wz.heap.size) := by rw [hwz, hZ]; exact Lib.hid (by simp)
  go_wp2_with fail
  rw [← hwz, ← hZ]
  have HZE := Lib.hid hZ
  clear hwz hZ
  refine (new_any _).mono ?_
  rintro e w1 ⟨f, rfl, hg, hz, hb⟩
  have HZ1 := Lib.hid hz
  have HGF := Lib.hid hg
  have HB1 := Lib.hid (HBz.out.trans (hb.mono HBz.out.size))
  have HS1 : Hid (Z < w1.heap.size) := Lib.hid (Nat.lt_of_lt_of_le HSz.out hb.size)
  have HZB1 := Lib.hid ((hb.block Z HSz.out).trans HZB.out)
  have v0 := (hb.cell (p := ⟨Z, 0, none⟩) HSz.out).trans z0
  have v1 := (hb.cell (p := ⟨Z, 1, none⟩) HSz.out).trans z1
  clear hz hb hg z0 z1 HZB
  obtain ⟨g, hgg⟩ : ∃ g, g = w1.heap.size := ⟨_, rfl⟩
  obtain ⟨w1g, hw1g⟩ : ∃ x, x = w1.alloc (.cells #[.bool false, .int .i64 0, .bool false, .int .i64 0] 28) := ⟨_, rfl⟩
  have HZg : Hid (Fz w1g f 58 ⟨false, 0, false, 0⟩) := by rw [hw1g]; exact Lib.hid ((Below.heap_alloc w1 _ f HZ1.out.lt).trans HZ1.out)
  have HGg : Hid (FzR w1g g ⟨false, 0, false, 0⟩) := by rw [hw1g, hgg]; exact Lib.hid ⟨0, Fz.new w1 28 false 0 false 0, fun h => by cases h⟩
  have HFG : Hid (f < g) := Lib.hid (by rw [hgg]; exact HZ1.out.lt)
  have HB1g : Hid (Below w.heap.size w w1g) := by rw [hw1g]; exact Lib.hid (HB1.out.alloc HB1.out.size _)
  have HS1g : Hid (Z < w1g.heap.size) := by rw [hw1g]; exact Lib.hid (by have := HS1.out; simp; omega)
  have HZB2 : Hid (w1g.heap[Z]? = some (.cells #[.int .i64 a0, .int .i64 a1] 22)) := by rw [hw1g]; exact Lib.hid ((Below.heap_alloc w1 _ Z HS1.out).trans HZB1.out)
  have u0 : w1g.cell? ⟨Z, 0, none⟩ = some (.int .i64 a0) := by rw [hw1g, World.cell?_alloc_lt _ _ _ HS1.out]; exact v0
  have u1 : w1g.cell? ⟨Z, 1, none⟩ = some (.int .i64 a1) := by rw [hw1g, World.cell?_alloc_lt _ _ _ HS1.out]; exact v1
  clear v0 v1 HZB1
  go_wp2_with fail
  rw [← hw1g, ← hgg]
  clear hw1g hgg HZ1 HB1 HS1
  refine (awake_yes _).mono ?_
  rintro e w2 ⟨rfl, hb⟩
  have HF2 := Lib.hid (Fz.past HZg.out hb)
  have HG2 := Lib.hid (HGg.out.block (hb.block g HGg.out.lt))
  have HB2 := Lib.hid (HB1g.out.trans (hb.mono HB1g.out.size))
  have HS2 : Hid (Z < w2.heap.size) := Lib.hid (Nat.lt_of_lt_of_le HS1g.out hb.size)
  have HZB3 := Lib.hid ((hb.block Z HS1g.out).trans HZB2.out)
  have t0 := (hb.cell (p := ⟨Z, 0, none⟩) HS1g.out).trans u0
  have t1 := (hb.cell (p := ⟨Z, 1, none⟩) HS1g.out).trans u1
  clear hb u0 u1 HZg HGg HB1g HS1g HZB2
  have HGR := Lib.hid (great_any a0 a1 _ xs w2 (HX.out.under HB2.out rfl))
  rw [HGV.out] at HGR
  go_wp2_with fail
  refine HGR.out.mono ?_
  rintro e w3 ⟨rfl, hb⟩
  have HF3 := Lib.hid (Fz.past HF2.out hb)
  have HG3 := Lib.hid (HG2.out.block (hb.block g HG2.out.lt))
  have HB3 := Lib.hid (HB2.out.trans (hb.mono HB2.out.size))
  have HS3 : Hid (Z < w3.heap.size) := Lib.hid (Nat.lt_of_lt_of_le HS2.out hb.size)
  have HZB4 := Lib.hid ((hb.block Z HS2.out).trans HZB3.out)
  have q0 := (hb.cell (p := ⟨Z, 0, none⟩) HS2.out).trans t0
  have q1 := (hb.cell (p := ⟨Z, 1, none⟩) HS2.out).trans t1
  have HZw : Hid (w.heap.size ≤ Z) := Lib.hid (Nat.le_of_eq HZE.out.symm)
  have HFZ : Hid (Z < f) := Lib.hid (by rw [← HGF.out]; exact HSz.out)
  clear hb t0 t1 HF2 HG2 HB2 HS2 HGR HZB3
  go_wp2_with fail
  refine (awake_yes _).mono ?_
  rintro e w4 ⟨rfl, hb⟩
  have HB4 := Lib.hid (HB3.out.trans (hb.mono HB3.out.size))
  clear hb
  go_wp2
  go_ret
  exact ⟨rfl, HB4.out⟩

set_option maxRecDepth 100000 in
set_option maxHeartbeats 64000000 in
theorem walk_main (a0 a1 : Int) (A : Option Addr) (c : Nat) (xs : List Ac) (w : World) (hx : ActsX w (.slice A xs.length c) xs) (hg : greatB a1 xs = false) : Calls Try.prog 3 #[.agg #[.int .i64 a0, .int .i64 a1], .slice A xs.length c] w (Holds w) := by
  have HX := Lib.hid hx
  have HGV := Lib.hid hg
  obtain ⟨g1, g2, g3⟩ := great_no hg
  obtain ⟨z, hz⟩ : ∃ z : Nat, (z : Int) = min (max a0 128) 1024 := ⟨(min (max a0 128) 1024).toNat, by omega⟩
  obtain ⟨n, hn⟩ : ∃ n : Nat, (n : Int) = min (max a1 4) 1024 := ⟨(min (max a1 4) 1024).toNat, by omega⟩
  have HZB0 : Hid (128 ≤ z ∧ z ≤ 1024 ∧ 4 ≤ n ∧ n ≤ 1024) := Lib.hid (by omega)
  have HZN := Lib.hid hz
  have HNN := Lib.hid hn
  clear hx hg g2 g3 hz hn
  go_enter Try.func3, Try.ntmps3
  obtain ⟨Z, hZ⟩ : ∃ Z, Z = w.heap.size := ⟨_, rfl⟩
  obtain ⟨wz, hwz⟩ : ∃ wz, wz = w.alloc (.cells #[.int .i64 a0, .int .i64 a1] 22) := ⟨_, rfl⟩
  have z0 : wz.cell? ⟨Z, 0, none⟩ = some (.int .i64 a0) := by rw [hwz, hZ]; simp
  have z1 : wz.cell? ⟨Z, 1, none⟩ = some (.int .i64 a1) := by rw [hwz, hZ]; simp
  have HZB : Hid (wz.heap[Z]? = some (.cells #[.int .i64 a0, .int .i64 a1] 22)) := by rw [hwz, hZ]; exact Lib.hid (heap_alloc_new w _)
  have HBz : Hid (Below w.heap.size w wz) := by rw [hwz]; exact Lib.hid ((Below.refl _ _).alloc (Nat.le_refl _) _)
  have HSz : Hid (Z < wz.heap.size) := by rw [hwz, hZ]; exact Lib.hid (by simp)
  go_wp2_with fail
  rw [← hwz, ← hZ]
  have HZE := Lib.hid hZ
  clear hwz hZ
  refine (new_any _).mono ?_
  rintro e w1 ⟨f, rfl, hg, hz, hb⟩
  have HZ1 := Lib.hid hz
  have HGF := Lib.hid hg
  have HB1 := Lib.hid (HBz.out.trans (hb.mono HBz.out.size))
  have HS1 : Hid (Z < w1.heap.size) := Lib.hid (Nat.lt_of_lt_of_le HSz.out hb.size)
  have HZB1 := Lib.hid ((hb.block Z HSz.out).trans HZB.out)
  have v0 := (hb.cell (p := ⟨Z, 0, none⟩) HSz.out).trans z0
  have v1 := (hb.cell (p := ⟨Z, 1, none⟩) HSz.out).trans z1
  clear hz hb hg z0 z1 HZB
  obtain ⟨g, hgg⟩ : ∃ g, g = w1.heap.size := ⟨_, rfl⟩
  obtain ⟨w1g, hw1g⟩ : ∃ x, x = w1.alloc (.cells #[.bool false, .int .i64 0, .bool false, .int .i64 0] 28) := ⟨_, rfl⟩
  have HZg : Hid (Fz w1g f 58 ⟨false, 0, false, 0⟩) := by rw [hw1g]; exact Lib.hid ((Below.heap_alloc w1 _ f HZ1.out.lt).trans HZ1.out)
  have HGg : Hid (FzR w1g g ⟨false, 0, false, 0⟩) := by rw [hw1g, hgg]; exact Lib.hid ⟨0, Fz.new w1 28 false 0 false 0, fun h => by cases h⟩
  have HFG : Hid (f < g) := Lib.hid (by rw [hgg]; exact HZ1.out.lt)
  have HB1g : Hid (Below w.heap.size w w1g) := by rw [hw1g]; exact Lib.hid (HB1.out.alloc HB1.out.size _)
  have HS1g : Hid (Z < w1g.heap.size) := by rw [hw1g]; exact Lib.hid (by have := HS1.out; simp; omega)
  have HZB2 : Hid (w1g.heap[Z]? = some (.cells #[.int .i64 a0, .int .i64 a1] 22)) := by rw [hw1g]; exact Lib.hid ((Below.heap_alloc w1 _ Z HS1.out).trans HZB1.out)
  have u0 : w1g.cell? ⟨Z, 0, none⟩ = some (.int .i64 a0) := by rw [hw1g, World.cell?_alloc_lt _ _ _ HS1.out]; exact v0
  have u1 : w1g.cell? ⟨Z, 1, none⟩ = some (.int .i64 a1) := by rw [hw1g, World.cell?_alloc_lt _ _ _ HS1.out]; exact v1
  clear v0 v1 HZB1
  go_wp2_with fail
  rw [← hw1g, ← hgg]
  clear hw1g hgg HZ1 HB1 HS1
  refine (awake_yes _).mono ?_
  rintro e w2 ⟨rfl, hb⟩
  have HF2 := Lib.hid (Fz.past HZg.out hb)
  have HG2 := Lib.hid (HGg.out.block (hb.block g HGg.out.lt))
  have HB2 := Lib.hid (HB1g.out.trans (hb.mono HB1g.out.size))
  have HS2 : Hid (Z < w2.heap.size) := Lib.hid (Nat.lt_of_lt_of_le HS1g.out hb.size)
  have HZB3 := Lib.hid ((hb.block Z HS1g.out).trans HZB2.out)
  have t0 := (hb.cell (p := ⟨Z, 0, none⟩) HS1g.out).trans u0
  have t1 := (hb.cell (p := ⟨Z, 1, none⟩) HS1g.out).trans u1
  clear hb u0 u1 HZg HGg HB1g HS1g HZB2
  have HGR := Lib.hid (great_any a0 a1 _ xs w2 (HX.out.under HB2.out rfl))
  rw [HGV.out] at HGR
  go_wp2_with fail
  refine HGR.out.mono ?_
  rintro e w3 ⟨rfl, hb⟩
  have HF3 := Lib.hid (Fz.past HF2.out hb)
  have HG3 := Lib.hid (HG2.out.block (hb.block g HG2.out.lt))
  have HB3 := Lib.hid (HB2.out.trans (hb.mono HB2.out.size))
  have HS3 : Hid (Z < w3.heap.size) := Lib.hid (Nat.lt_of_lt_of_le HS2.out hb.size)
  have HZB4 := Lib.hid ((hb.block Z HS2.out).trans HZB3.out)
  have q0 := (hb.cell (p := ⟨Z, 0, none⟩) HS2.out).trans t0
  have q1 := (hb.cell (p := ⟨Z, 1, none⟩) HS2.out).trans t1
  have HZw : Hid (w.heap.size ≤ Z) := Lib.hid (Nat.le_of_eq HZE.out.symm)
  have HFZ : Hid (Z < f) := Lib.hid (by rw [← HGF.out]; exact HSz.out)
  clear hb t0 t1 HF2 HG2 HB2 HS2 HGR HZB3
  go_wp2
  go_region_held3 (fun wx => wx.cell? ⟨Z, 0, none⟩ = some (.int .i64 a0) ∧ wx.cell? ⟨Z, 1, none⟩ = some (.int .i64 a1)) (first | exact ⟨r0, r1⟩ | exact ⟨p0, p1⟩ | exact ⟨q0, q1⟩) (first | (go_at_call 11; refine (new_D (B := w.heap.size) (f := f) a0 a1 z n HZN.out HNN.out ?_ new_good (Nat.le_trans HZw.out (Nat.le_of_lt HFZ.out)) ?_).mono ?_; (exact HF3.out); (exact HB3.out.size); rintro e w4 ⟨d, P4, rfl, hd4, hb4d, hp4⟩; have hb4 := under_drew hb4d; clear hb4d; have p0 := (hb4.cell (p := ⟨Z, 0, none⟩) HS3.out).trans q0; have p1 := (hb4.cell (p := ⟨Z, 1, none⟩) HS3.out).trans q1; have HS4 : Hid (Z < w4.heap.size) := Lib.hid (Nat.lt_of_lt_of_le HS3.out hb4.size); have HG4 := Lib.hid (HG3.out.block (hb4.block g HG3.out.lt)); have HB4 := Lib.hid (HB3.out.trans (hb4.mono HB3.out.size))) | (go_at_call 12; refine (mnew_D (B := w.heap.size) (g := g) a0 a1 z n HZN.out HNN.out HG4.out new_good (Nat.le_trans HZw.out (Nat.le_of_lt (Nat.lt_trans HFZ.out HFG.out))) HB4.out.size).mono ?_; rintro e w5 ⟨m, R5, rfl, hd5, hb5, hp5⟩; have r0 := (hb5.cell (p := ⟨Z, 0, none⟩) HS4.out).trans p0; have r1 := (hb5.cell (p := ⟨Z, 1, none⟩) HS4.out).trans p1))
  have a6 : w3.heap.size ≤ w4.heap.size := hb4.size
  have a7 : w3.drew.heap.size = w3.heap.size := rfl
  have a4 := HG3.out.lt
  have a5 := HFG.out
  have a8 := HFZ.out
  have a9 := HS3.out
  have HD5 : Hid (PairD w w5 P4 R5 d f m g Z (.cells #[.int .i64 a0, .int .i64 a1] 22) (fresh z n) (fresh z n) ⟨false, 0, false, 0⟩ ⟨false, 0, false, 0⟩) := Lib.hid ⟨hd4.under hb5, hd5, fun k h1 h2 => by
    have a1 := hp4 k h1
    have a2 := hp5 k h2
    have a3 := (hd4.lt k h1).2
    omega, HB4.out.trans (hb5.mono HB4.out.size), (hb5.block Z HS4.out).trans ((hb4.block Z HS3.out).trans HZB4.out), fun h1 => by
    have a1 := hp4 Z h1
    omega, fun h2 => by
    have a2 := hp5 Z h2
    omega⟩
  clear a4 a5 a6 a7 a8 a9 hd4 hd5 hb4 hb5 hp4 hp5 p0 p1 q0 q1 r0 r1 HF3 HG3 HS3 HS4 HG4 HB3 HB4 HZB4
  go_wp2_with fail
  refine (first_open HD5.out HZB0.out.1 HZB0.out.2.1 HZB0.out.2.2.1 HZB0.out.2.2.2).mono ?_
  rintro e w6 ⟨P6, v, ra, rc, s', fu', rfl, H6⟩
  clear HD5
  go_wp2_with fail
  refine (then_open H6.out.1 H6.out.2.1 HZB0.out.1 HZB0.out.2.2.1).mono ?_
  rintro e w7 ⟨U7, v2, rfl, H7⟩
  go_wp2
  go_loopg [9, 12, 71] xs.length (fun gg o1 o2 i wr => ∃ k : Nat, Hid (gg = xs.length - k) ∧ k ≤ xs.length ∧ i = .int .i64 (k : Int) ∧ Hid (Play w wr d f m g (k + 1) o1 o2))
  case atStart => exact ⟨0, Lib.hid rfl, Nat.zero_le _, rfl, Lib.hid (.inl ⟨P6, U7, v, v2, Z, _, s', fu', _, rfl, rfl, H7.out, H6.out.2.2.1, H6.out.2.2.2⟩)⟩
  case round =>
    clear H6 H7
    obtain ⟨k, HGG, hk, rfl, HP⟩ := hrel
    by_cases hlt : k < xs.length
    · obtain ⟨b, off, rfl, hb, hL0⟩ := HX.out.kth HP.out.below hlt
      obtain ⟨⟨kd, tx, nn, kp⟩, hA⟩ : ∃ A, A = xs[k] := ⟨_, rfl⟩
      rw [← hA] at hL0
      obtain ⟨k0, k1, k2, k3, b1, b2, b3⟩ := hL0
      simp only at k0 k1 k2 k3 b1 b2 b3
      have HT3 := Lib.hid b3
      have hk40 : k + 1 ≤ 40 := by omega
      clear hA b3
      obtain ⟨A, hAA⟩ : ∃ A, A = wr.heap.size := ⟨_, rfl⟩
      obtain ⟨wa, hwa⟩ : ∃ wa, wa = wr.alloc (.cells #[.int .i64 kd, .string tx, .int .i64 nn, .int .u64 (kp : Int)] 45) := ⟨_, rfl⟩
      by_cases h1 : kd = 1
      · subst h1
        rcases HP.out with hP | hP
        · clear HP
          as_aux_lemma =>
            obtain ⟨P, U, v, v2, A0, blk0, s, fu, l, rfl, rfl, hpair, hfine, hfl⟩ := hP
            have HF := Lib.hid hfine
            have HL := Lib.hid hfl
            clear hfine hfl
            have HA : Hid (Pair w wa P U d f m g v v2 A (.cells #[.int .i64 1, .string tx, .int .i64 nn, .int .u64 (kp : Int)] 45) s s fu fu l l) := by rw [hwa, hAA]; exact Lib.hid (hpair.next _)
            clear hpair
            obtain ⟨cc, hcc⟩ : ∃ x, x = (appendR s fu l tx).1 := ⟨_, rfl⟩
            obtain ⟨sx, hsx⟩ : ∃ x, x = (appendR s fu l tx).2.1 := ⟨_, rfl⟩
            obtain ⟨fx, hfx⟩ : ∃ x, x = (appendR s fu l tx).2.2.1 := ⟨_, rfl⟩
            obtain ⟨lx, hlx⟩ : ∃ x, x = (appendR s fu l tx).2.2.2 := ⟨_, rfl⟩
            have HN1 : Hid (∀ W, Pair w W P U d f m g v v2 A (.cells #[.int .i64 1, .string tx, .int .i64 nn, .int .u64 (kp : Int)] 45) s s fu fu l l → Calls Try.prog 15 #[.pointer (some ⟨v, 0, none⟩), .string tx] W fun e w' => e = .returned (.int .i64 cc) ∧ ∃ P', Pair w w' P' U d f m g v v2 A (.cells #[.int .i64 1, .string tx, .int .i64 nn, .int .u64 (kp : Int)] 45) sx s fx fu lx l) := Lib.hid (fun W h => by rw [hcc, hsx, hfx, hlx]; exact pair_app1 tx HT3.out h HF.out HL.out hk40)
            have HN2 : Hid (∀ W P', Pair w W P' U d f m g v v2 A (.cells #[.int .i64 1, .string tx, .int .i64 nn, .int .u64 (kp : Int)] 45) sx s fx fu lx l → Calls Try.prog 16 #[.pointer (some ⟨v2, 0, none⟩), .string tx] W fun e w' => e = .returned (.int .i64 cc) ∧ ∃ U', Pair w w' P' U' d f m g v v2 A (.cells #[.int .i64 1, .string tx, .int .i64 nn, .int .u64 (kp : Int)] 45) sx sx fx fx lx lx) := Lib.hid (fun W P' h => by rw [hcc]; have := pair_app2 tx HT3.out h HF.out HL.out hk40; rw [← hsx, ← hfx, ← hlx] at this; exact this)
            have HFX : Hid (Fine sx fx (k + 1 + 1)) := Lib.hid (by rw [hsx, hfx]; exact (append_fine tx HF.out HL.out).1)
            have HLX : Hid (FineL sx lx) := Lib.hid (by rw [hsx, hlx]; exact (append_fine tx HF.out HL.out).2)
            clear hcc hsx hfx hlx HF HL
            have y1 := cellA1 HA.out.ha
            go_wp2
            rw [← hwa, ← hAA]
            clear hwa hAA k0 k1 k2 k3
            go_region_held3 (fun wx => wx.cell? ⟨A, 1, none⟩ = some (.string tx)) (first | exact y3 | exact y2 | exact y1) (first | (go_at_call 15; refine (HN1.out _ HA.out.drew).mono ?_; rintro e w8 ⟨rfl, P8, h8⟩; have y2 := cellA1 h8.ha) | (go_at_call 16; refine (HN2.out _ _ h8).mono ?_; rintro e w9 ⟨rfl, U9, h9⟩; have y3 := cellA1 h9.ha))
            have HX := Lib.hid h9
            clear h8 h9 y1 y2 y3 HN1 HN2 HA
            go_wp2
            obtain ⟨Rm, hRm⟩ : ∃ x : Int, x = (sx.half : Int) - 1 - (lx.list.length : Int) := ⟨_, rfl⟩
            obtain ⟨Gn, hGn⟩ : ∃ x : Nat, x = lx.gen := ⟨_, rfl⟩
            obtain ⟨bk, hbk⟩ : ∃ x : Bool, x = lx.broken := ⟨_, rfl⟩
            have HR1 : Hid (∀ W, Pair w W P8 U9 d f m g v v2 A (.cells #[.int .i64 1, .string tx, .int .i64 nn, .int .u64 (kp : Int)] 45) sx sx fx fx lx lx → Calls Try.prog 24 #[.pointer (some ⟨v, 0, none⟩)] W fun e w' => e = .returned (.int .i64 Rm) ∧ Alike w' W) := Lib.hid (fun W h => by rw [hRm]; exact pair_room1 h HLX.out)
            have HR2 : Hid (∀ W, Pair w W P8 U9 d f m g v v2 A (.cells #[.int .i64 1, .string tx, .int .i64 nn, .int .u64 (kp : Int)] 45) sx sx fx fx lx lx → Calls Try.prog 25 #[.pointer (some ⟨v2, 0, none⟩)] W fun e w' => e = .returned (.int .i64 Rm) ∧ Alike w' W) := Lib.hid (fun W h => by rw [hRm]; exact pair_room2 h HLX.out)
            have HR3 : Hid (∀ W, Pair w W P8 U9 d f m g v v2 A (.cells #[.int .i64 1, .string tx, .int .i64 nn, .int .u64 (kp : Int)] 45) sx sx fx fx lx lx → Calls Try.prog 26 #[.pointer (some ⟨v, 0, none⟩)] W fun e w' => e = .returned (.int .i64 (Gn : Int)) ∧ W = w') := Lib.hid (fun W h => by rw [hGn]; exact gen_any h.p)
            have HR4 : Hid (∀ W, Pair w W P8 U9 d f m g v v2 A (.cells #[.int .i64 1, .string tx, .int .i64 nn, .int .u64 (kp : Int)] 45) sx sx fx fx lx lx → Calls Try.prog 27 #[.pointer (some ⟨v, 0, none⟩)] W fun e w' => e = .returned (.bool bk) ∧ W = w') := Lib.hid (fun W h => by rw [hbk]; exact broken_any h.p)
            have HC2 : Hid (∀ W, Pair w W P8 U9 d f m g v v2 A (.cells #[.int .i64 1, .string tx, .int .i64 nn, .int .u64 (kp : Int)] 45) sx sx fx fx lx lx → W.cell? ⟨v2, 2, none⟩ = some (.int .i64 (Gn : Int)) ∧ W.cell? ⟨v2, 4, none⟩ = some (.bool bk)) := Lib.hid (fun W h => by rw [hGn, hbk]; exact ⟨h.c2, h.c4⟩)
            clear hRm hGn hbk
            have x1 := HC2.out _ HX.out
            go_region_held3 (fun wx => wx.cell? ⟨v2, 2, none⟩ = some (.int .i64 (Gn : Int)) ∧ wx.cell? ⟨v2, 4, none⟩ = some (.bool bk)) (first | exact x3 | exact x2 | exact x1) (first | (go_at_call 24; refine (HR1.out _ HX.out.drew).mono ?_; rintro e wb ⟨rfl, ha1⟩; have hb1 := HX.out.drew.alike ha1; have x2 := HC2.out _ hb1) | (go_at_call 25; refine (HR2.out _ hb1).mono ?_; rintro e wc ⟨rfl, ha2⟩; have hb2 := hb1.alike ha2; have x3 := HC2.out _ hb2) | (go_at_call 26; refine (HR3.out _ hb2).mono ?_; rintro e w' ⟨rfl, rfl⟩) | (go_at_call 27; refine (HR4.out _ hb2).mono ?_; rintro e w' ⟨rfl, rfl⟩))
            have HZ := Lib.hid hb2
            clear hb2 hb1 ha1 ha2 x1 x2 x3 HR1 HR2 HR3 HR4 HC2 HX
            go_wp2
            go_roundg (xs.length - (k + 1))
            case measure => have := HGG.out; omega
            case rel => exact ⟨k + 1, Lib.hid rfl, by omega, by go_num, Lib.hid (.inl ⟨P8, U9, v, v2, A, _, sx, fx, lx, rfl, rfl, HZ.out, HFX.out, HLX.out⟩)⟩
        · clear HP
          as_aux_lemma =>
            obtain ⟨P, R, A0, blk0, s, fu, rfl, rfl, hpair, hfine⟩ := hP
            have HF := Lib.hid hfine
            clear hfine
            have HA : Hid (PairD w wa P R d f m g A (.cells #[.int .i64 1, .string tx, .int .i64 nn, .int .u64 (kp : Int)] 45) s s fu fu) := by rw [hwa, hAA]; exact Lib.hid (hpair.next _)
            clear hpair
            have HFX := Lib.hid HF.out.more
            have HX := HA
            go_wp2
            rw [← hwa]
            clear hwa hAA k0 k1 k2 k3 HA HF
            go_quiet (fail)
            obtain ⟨Wp, hWp⟩ : ∃ W, W = wa.drewN nq := ⟨_, rfl⟩
            rw [← hWp]
            have HX' : Hid (PairD w Wp P R d f m g A (.cells #[.int .i64 1, .string tx, .int .i64 nn, .int .u64 (kp : Int)] 45) s s fu fu) := by rw [hWp]; exact Lib.hid (HX.out.alike ⟨rfl, rfl, rfl, rfl⟩)
            clear hWp HX
            have HX := HX'
            clear HX'
            go_wp2
            go_quiet (fail)
            obtain ⟨Wq, hWq⟩ : ∃ W, W = Wp.drewN nq := ⟨_, rfl⟩
            rw [← hWq]
            have HZ : Hid (PairD w Wq P R d f m g A (.cells #[.int .i64 1, .string tx, .int .i64 nn, .int .u64 (kp : Int)] 45) s s fu fu) := by rw [hWq]; exact Lib.hid (HX.out.alike ⟨rfl, rfl, rfl, rfl⟩)
            clear hWq HX
            go_wp2
            go_roundg (xs.length - (k + 1))
            case measure => have := HGG.out; omega
            case rel => exact ⟨k + 1, Lib.hid rfl, by omega, by go_num, Lib.hid (.inr ⟨P, R, A, _, s, fu, rfl, rfl, HZ.out, HFX.out⟩)⟩
      have n1 : (kd == 1) = false := by simpa using h1
      by_cases h2 : kd = 2
      · subst h2
        clear h1 n1
        rcases HP.out with hP | hP
        · clear HP
          as_aux_lemma =>
            obtain ⟨P, U, v, v2, A0, blk0, s, fu, l, rfl, rfl, hpair, hfine, hfl⟩ := hP
            have HF := Lib.hid hfine
            have HL := Lib.hid hfl
            clear hfine hfl
            have HA : Hid (Pair w wa P U d f m g v v2 A (.cells #[.int .i64 2, .string tx, .int .i64 nn, .int .u64 (kp : Int)] 45) s s fu fu l l) := by rw [hwa, hAA]; exact Lib.hid (hpair.next _)
            clear hpair
            obtain ⟨cc, hcc⟩ : ∃ x, x = (checkR s fu l tx).1 := ⟨_, rfl⟩
            obtain ⟨sx, hsx⟩ : ∃ x, x = (checkR s fu l tx).2.1 := ⟨_, rfl⟩
            obtain ⟨fx, hfx⟩ : ∃ x, x = (checkR s fu l tx).2.2.1 := ⟨_, rfl⟩
            obtain ⟨lx, hlx⟩ : ∃ x, x = (checkR s fu l tx).2.2.2 := ⟨_, rfl⟩
            have HN1 : Hid (∀ W, Pair w W P U d f m g v v2 A (.cells #[.int .i64 2, .string tx, .int .i64 nn, .int .u64 (kp : Int)] 45) s s fu fu l l → Calls Try.prog 17 #[.pointer (some ⟨v, 0, none⟩), .string tx] W fun e w' => e = .returned (.int .i64 cc) ∧ ∃ P', Pair w w' P' U d f m g v v2 A (.cells #[.int .i64 2, .string tx, .int .i64 nn, .int .u64 (kp : Int)] 45) sx s fx fu lx l) := Lib.hid (fun W h => by rw [hcc, hsx, hfx, hlx]; exact pair_chk1 tx HT3.out h HF.out HL.out hk40)
            have HN2 : Hid (∀ W P', Pair w W P' U d f m g v v2 A (.cells #[.int .i64 2, .string tx, .int .i64 nn, .int .u64 (kp : Int)] 45) sx s fx fu lx l → Calls Try.prog 18 #[.pointer (some ⟨v2, 0, none⟩), .string tx] W fun e w' => e = .returned (.int .i64 cc) ∧ ∃ U', Pair w w' P' U' d f m g v v2 A (.cells #[.int .i64 2, .string tx, .int .i64 nn, .int .u64 (kp : Int)] 45) sx sx fx fx lx lx) := Lib.hid (fun W P' h => by rw [hcc]; have := pair_chk2 tx HT3.out h HF.out HL.out hk40; rw [← hsx, ← hfx, ← hlx] at this; exact this)
            have HFX : Hid (Fine sx fx (k + 1 + 1)) := Lib.hid (by rw [hsx, hfx]; exact (check_fine tx HF.out HL.out).1)
            have HLX : Hid (FineL sx lx) := Lib.hid (by rw [hsx, hlx]; exact (check_fine tx HF.out HL.out).2)
            clear hcc hsx hfx hlx HF HL
            have y1 := cellA1 HA.out.ha
            go_wp2
            rw [← hwa, ← hAA]
            clear hwa hAA k0 k1 k2 k3
            go_region_held3 (fun wx => wx.cell? ⟨A, 1, none⟩ = some (.string tx)) (first | exact y3 | exact y2 | exact y1) (first | (go_at_call 17; refine (HN1.out _ HA.out.drew).mono ?_; rintro e w8 ⟨rfl, P8, h8⟩; have y2 := cellA1 h8.ha) | (go_at_call 18; refine (HN2.out _ _ h8).mono ?_; rintro e w9 ⟨rfl, U9, h9⟩; have y3 := cellA1 h9.ha))
            have HX := Lib.hid h9
            clear h8 h9 y1 y2 y3 HN1 HN2 HA
            go_wp2
            obtain ⟨Rm, hRm⟩ : ∃ x : Int, x = (sx.half : Int) - 1 - (lx.list.length : Int) := ⟨_, rfl⟩
            obtain ⟨Gn, hGn⟩ : ∃ x : Nat, x = lx.gen := ⟨_, rfl⟩
            obtain ⟨bk, hbk⟩ : ∃ x : Bool, x = lx.broken := ⟨_, rfl⟩
            have HR1 : Hid (∀ W, Pair w W P8 U9 d f m g v v2 A (.cells #[.int .i64 2, .string tx, .int .i64 nn, .int .u64 (kp : Int)] 45) sx sx fx fx lx lx → Calls Try.prog 24 #[.pointer (some ⟨v, 0, none⟩)] W fun e w' => e = .returned (.int .i64 Rm) ∧ Alike w' W) := Lib.hid (fun W h => by rw [hRm]; exact pair_room1 h HLX.out)
            have HR2 : Hid (∀ W, Pair w W P8 U9 d f m g v v2 A (.cells #[.int .i64 2, .string tx, .int .i64 nn, .int .u64 (kp : Int)] 45) sx sx fx fx lx lx → Calls Try.prog 25 #[.pointer (some ⟨v2, 0, none⟩)] W fun e w' => e = .returned (.int .i64 Rm) ∧ Alike w' W) := Lib.hid (fun W h => by rw [hRm]; exact pair_room2 h HLX.out)
            have HR3 : Hid (∀ W, Pair w W P8 U9 d f m g v v2 A (.cells #[.int .i64 2, .string tx, .int .i64 nn, .int .u64 (kp : Int)] 45) sx sx fx fx lx lx → Calls Try.prog 26 #[.pointer (some ⟨v, 0, none⟩)] W fun e w' => e = .returned (.int .i64 (Gn : Int)) ∧ W = w') := Lib.hid (fun W h => by rw [hGn]; exact gen_any h.p)
            have HR4 : Hid (∀ W, Pair w W P8 U9 d f m g v v2 A (.cells #[.int .i64 2, .string tx, .int .i64 nn, .int .u64 (kp : Int)] 45) sx sx fx fx lx lx → Calls Try.prog 27 #[.pointer (some ⟨v, 0, none⟩)] W fun e w' => e = .returned (.bool bk) ∧ W = w') := Lib.hid (fun W h => by rw [hbk]; exact broken_any h.p)
            have HC2 : Hid (∀ W, Pair w W P8 U9 d f m g v v2 A (.cells #[.int .i64 2, .string tx, .int .i64 nn, .int .u64 (kp : Int)] 45) sx sx fx fx lx lx → W.cell? ⟨v2, 2, none⟩ = some (.int .i64 (Gn : Int)) ∧ W.cell? ⟨v2, 4, none⟩ = some (.bool bk)) := Lib.hid (fun W h => by rw [hGn, hbk]; exact ⟨h.c2, h.c4⟩)
            clear hRm hGn hbk
            have x1 := HC2.out _ HX.out
            go_region_held3 (fun wx => wx.cell? ⟨v2, 2, none⟩ = some (.int .i64 (Gn : Int)) ∧ wx.cell? ⟨v2, 4, none⟩ = some (.bool bk)) (first | exact x3 | exact x2 | exact x1) (first | (go_at_call 24; refine (HR1.out _ HX.out.drew).mono ?_; rintro e wb ⟨rfl, ha1⟩; have hb1 := HX.out.drew.alike ha1; have x2 := HC2.out _ hb1) | (go_at_call 25; refine (HR2.out _ hb1).mono ?_; rintro e wc ⟨rfl, ha2⟩; have hb2 := hb1.alike ha2; have x3 := HC2.out _ hb2) | (go_at_call 26; refine (HR3.out _ hb2).mono ?_; rintro e w' ⟨rfl, rfl⟩) | (go_at_call 27; refine (HR4.out _ hb2).mono ?_; rintro e w' ⟨rfl, rfl⟩))
            have HZ := Lib.hid hb2
            clear hb2 hb1 ha1 ha2 x1 x2 x3 HR1 HR2 HR3 HR4 HC2 HX
            go_wp2
            go_roundg (xs.length - (k + 1))
            case measure => have := HGG.out; omega
            case rel => exact ⟨k + 1, Lib.hid rfl, by omega, by go_num, Lib.hid (.inl ⟨P8, U9, v, v2, A, _, sx, fx, lx, rfl, rfl, HZ.out, HFX.out, HLX.out⟩)⟩
        · clear HP
          as_aux_lemma =>
            obtain ⟨P, R, A0, blk0, s, fu, rfl, rfl, hpair, hfine⟩ := hP
            have HF := Lib.hid hfine
            clear hfine
            have HA : Hid (PairD w wa P R d f m g A (.cells #[.int .i64 2, .string tx, .int .i64 nn, .int .u64 (kp : Int)] 45) s s fu fu) := by rw [hwa, hAA]; exact Lib.hid (hpair.next _)
            clear hpair
            have HFX := Lib.hid HF.out.more
            have HX := HA
            go_wp2
            rw [← hwa]
            clear hwa hAA k0 k1 k2 k3 HA HF
            go_quiet (fail)
            obtain ⟨Wp, hWp⟩ : ∃ W, W = wa.drewN nq := ⟨_, rfl⟩
            rw [← hWp]
            have HX' : Hid (PairD w Wp P R d f m g A (.cells #[.int .i64 2, .string tx, .int .i64 nn, .int .u64 (kp : Int)] 45) s s fu fu) := by rw [hWp]; exact Lib.hid (HX.out.alike ⟨rfl, rfl, rfl, rfl⟩)
            clear hWp HX
            have HX := HX'
            clear HX'
            go_wp2
            go_quiet (fail)
            obtain ⟨Wq, hWq⟩ : ∃ W, W = Wp.drewN nq := ⟨_, rfl⟩
            rw [← hWq]
            have HZ : Hid (PairD w Wq P R d f m g A (.cells #[.int .i64 2, .string tx, .int .i64 nn, .int .u64 (kp : Int)] 45) s s fu fu) := by rw [hWq]; exact Lib.hid (HX.out.alike ⟨rfl, rfl, rfl, rfl⟩)
            clear hWq HX
            go_wp2
            go_roundg (xs.length - (k + 1))
            case measure => have := HGG.out; omega
            case rel => exact ⟨k + 1, Lib.hid rfl, by omega, by go_num, Lib.hid (.inr ⟨P, R, A, _, s, fu, rfl, rfl, HZ.out, HFX.out⟩)⟩
      have n2 : (kd == 2) = false := by simpa using h2
      by_cases h3 : kd = 3
      · subst h3
        clear h1 n1 h2 n2
        rcases HP.out with hP | hP
        · clear HP
          as_aux_lemma =>
            obtain ⟨P, U, v, v2, A0, blk0, s, fu, l, rfl, rfl, hpair, hfine, hfl⟩ := hP
            have HF := Lib.hid hfine
            have HL := Lib.hid hfl
            clear hfine hfl
            have HA : Hid (Pair w wa P U d f m g v v2 A (.cells #[.int .i64 3, .string tx, .int .i64 nn, .int .u64 (kp : Int)] 45) s s fu fu l l) := by rw [hwa, hAA]; exact Lib.hid (hpair.next _)
            clear hpair
            have HFX := Lib.hid (HF.out.arm nn)
            have HLX := HL
            have y2 := cellA2 HA.out.ha
            go_wp2_with fail
            rw [← hwa, ← hAA]
            clear hwa hAA k0 k1 k2 k3 HF HL
            refine (pair_arm1 nn b1 HA.out).mono ?_
            rintro e w7 ⟨rfl, h7⟩
            have H7 := Lib.hid h7
            have z2 := cellA2 h7.ha
            clear h7 y2 HA
            go_wp2_with fail
            refine (pair_arm2 nn b1 H7.out).mono ?_
            rintro e w8 ⟨rfl, h8⟩
            have HX := Lib.hid h8
            clear h8 z2 H7
            obtain ⟨fx, hfx⟩ : ∃ x, x = fu.arm nn := ⟨_, rfl⟩
            rw [← hfx] at HX HFX
            clear hfx
            go_wp2
            obtain ⟨Rm, hRm⟩ : ∃ x : Int, x = (s.half : Int) - 1 - (l.list.length : Int) := ⟨_, rfl⟩
            obtain ⟨Gn, hGn⟩ : ∃ x : Nat, x = l.gen := ⟨_, rfl⟩
            obtain ⟨bk, hbk⟩ : ∃ x : Bool, x = l.broken := ⟨_, rfl⟩
            have HR1 : Hid (∀ W, Pair w W P U d f m g v v2 A (.cells #[.int .i64 3, .string tx, .int .i64 nn, .int .u64 (kp : Int)] 45) s s fx fx l l → Calls Try.prog 24 #[.pointer (some ⟨v, 0, none⟩)] W fun e w' => e = .returned (.int .i64 Rm) ∧ Alike w' W) := Lib.hid (fun W h => by rw [hRm]; exact pair_room1 h HLX.out)
            have HR2 : Hid (∀ W, Pair w W P U d f m g v v2 A (.cells #[.int .i64 3, .string tx, .int .i64 nn, .int .u64 (kp : Int)] 45) s s fx fx l l → Calls Try.prog 25 #[.pointer (some ⟨v2, 0, none⟩)] W fun e w' => e = .returned (.int .i64 Rm) ∧ Alike w' W) := Lib.hid (fun W h => by rw [hRm]; exact pair_room2 h HLX.out)
            have HR3 : Hid (∀ W, Pair w W P U d f m g v v2 A (.cells #[.int .i64 3, .string tx, .int .i64 nn, .int .u64 (kp : Int)] 45) s s fx fx l l → Calls Try.prog 26 #[.pointer (some ⟨v, 0, none⟩)] W fun e w' => e = .returned (.int .i64 (Gn : Int)) ∧ W = w') := Lib.hid (fun W h => by rw [hGn]; exact gen_any h.p)
            have HR4 : Hid (∀ W, Pair w W P U d f m g v v2 A (.cells #[.int .i64 3, .string tx, .int .i64 nn, .int .u64 (kp : Int)] 45) s s fx fx l l → Calls Try.prog 27 #[.pointer (some ⟨v, 0, none⟩)] W fun e w' => e = .returned (.bool bk) ∧ W = w') := Lib.hid (fun W h => by rw [hbk]; exact broken_any h.p)
            have HC2 : Hid (∀ W, Pair w W P U d f m g v v2 A (.cells #[.int .i64 3, .string tx, .int .i64 nn, .int .u64 (kp : Int)] 45) s s fx fx l l → W.cell? ⟨v2, 2, none⟩ = some (.int .i64 (Gn : Int)) ∧ W.cell? ⟨v2, 4, none⟩ = some (.bool bk)) := Lib.hid (fun W h => by rw [hGn, hbk]; exact ⟨h.c2, h.c4⟩)
            clear hRm hGn hbk
            have x1 := HC2.out _ HX.out
            go_region_held3 (fun wx => wx.cell? ⟨v2, 2, none⟩ = some (.int .i64 (Gn : Int)) ∧ wx.cell? ⟨v2, 4, none⟩ = some (.bool bk)) (first | exact x3 | exact x2 | exact x1) (first | (go_at_call 24; refine (HR1.out _ HX.out.drew).mono ?_; rintro e wb ⟨rfl, ha1⟩; have hb1 := HX.out.drew.alike ha1; have x2 := HC2.out _ hb1) | (go_at_call 25; refine (HR2.out _ hb1).mono ?_; rintro e wc ⟨rfl, ha2⟩; have hb2 := hb1.alike ha2; have x3 := HC2.out _ hb2) | (go_at_call 26; refine (HR3.out _ hb2).mono ?_; rintro e w' ⟨rfl, rfl⟩) | (go_at_call 27; refine (HR4.out _ hb2).mono ?_; rintro e w' ⟨rfl, rfl⟩))
            have HZ := Lib.hid hb2
            clear hb2 hb1 ha1 ha2 x1 x2 x3 HR1 HR2 HR3 HR4 HC2 HX
            go_wp2
            go_roundg (xs.length - (k + 1))
            case measure => have := HGG.out; omega
            case rel => exact ⟨k + 1, Lib.hid rfl, by omega, by go_num, Lib.hid (.inl ⟨P, U, v, v2, A, _, s, fx, l, rfl, rfl, HZ.out, HFX.out, HLX.out⟩)⟩
        · clear HP
          as_aux_lemma =>
            obtain ⟨P, R, A0, blk0, s, fu, rfl, rfl, hpair, hfine⟩ := hP
            have HF := Lib.hid hfine
            clear hfine
            have HA : Hid (PairD w wa P R d f m g A (.cells #[.int .i64 3, .string tx, .int .i64 nn, .int .u64 (kp : Int)] 45) s s fu fu) := by rw [hwa, hAA]; exact Lib.hid (hpair.next _)
            clear hpair
            have HFX := Lib.hid (HF.out.arm nn)
            have y2 := cellA2 HA.out.ha
            go_wp2_with fail
            rw [← hwa, ← hAA]
            clear hwa hAA k0 k1 k2 k3 HF
            refine (pd_arm1 nn b1 HA.out).mono ?_
            rintro e w7 ⟨rfl, h7⟩
            have H7 := Lib.hid h7
            have z2 := cellA2 h7.ha
            clear h7 y2 HA
            go_wp2_with fail
            refine (pd_arm2 nn b1 H7.out).mono ?_
            rintro e w8 ⟨rfl, h8⟩
            have HX := Lib.hid h8
            clear h8 z2 H7
            obtain ⟨fx, hfx⟩ : ∃ x, x = fu.arm nn := ⟨_, rfl⟩
            rw [← hfx] at HX HFX
            clear hfx
            go_wp2
            go_quiet (fail)
            obtain ⟨Wq, hWq⟩ : ∃ W, W = w8.drewN nq := ⟨_, rfl⟩
            rw [← hWq]
            have HZ : Hid (PairD w Wq P R d f m g A (.cells #[.int .i64 3, .string tx, .int .i64 nn, .int .u64 (kp : Int)] 45) s s fx fx) := by rw [hWq]; exact Lib.hid (HX.out.alike ⟨rfl, rfl, rfl, rfl⟩)
            clear hWq HX
            go_wp2
            go_roundg (xs.length - (k + 1))
            case measure => have := HGG.out; omega
            case rel => exact ⟨k + 1, Lib.hid rfl, by omega, by go_num, Lib.hid (.inr ⟨P, R, A, _, s, fx, rfl, rfl, HZ.out, HFX.out⟩)⟩
      have n3 : (kd == 3) = false := by simpa using h3
      by_cases h4 : kd = 4
      · subst h4
        clear h1 n1 h2 n2 h3 n3
        as_aux_lemma =>
          obtain ⟨P, R0, A0, blk0, s0, fu0, hpair, hfine⟩ := HP.out.disks
          have HF0 := Lib.hid hfine
          clear hfine HP
          have HA : Hid (PairD w wa P R0 d f m g A (.cells #[.int .i64 4, .string tx, .int .i64 nn, .int .u64 (kp : Int)] 45) s0 s0 fu0 fu0) := by rw [hwa, hAA]; exact Lib.hid (hpair.next _)
          have HF1 := Lib.hid (HF0.out.crash hpair.p.good kp nn)
          clear hpair
          have y0 := cellA0 HA.out.ha
          have y2 := cellA2 HA.out.ha
          have y3 := cellA3 HA.out.ha
          go_wp2_with fail
          rw [← hwa, ← hAA]
          clear hwa hAA k0 k1 k2 k3
          refine (pd_crash1 kp nn b2 HA.out HF0.out hk40).mono ?_
          rintro e w7 ⟨rfl, h7⟩
          have H7 := Lib.hid h7
          have z2 := cellA2 h7.ha
          have z3 := cellA3 h7.ha
          clear h7 y0 y2 y3 HA
          go_wp2_with fail
          refine (pd_crash2 kp nn b2 H7.out HF0.out hk40).mono ?_
          rintro e w8 ⟨rfl, R, h8⟩
          have HD := Lib.hid h8
          clear h8 z2 z3 H7 HF0
          obtain ⟨s, hs⟩ : ∃ x, x = s0.crash kp (cut nn s0.size) := ⟨_, rfl⟩
          obtain ⟨fu, hfu⟩ : ∃ x, x = fu0.reset := ⟨_, rfl⟩
          rw [← hs, ← hfu] at HD HF1
          have HF := HF1
          clear hs hfu HF1
          obtain ⟨sx, hsx⟩ : ∃ x, x = (openR s fu).2.1 := ⟨_, rfl⟩
          obtain ⟨fx, hfx⟩ : ∃ x, x = (openR s fu).2.2.1 := ⟨_, rfl⟩
          cases ho : (openR s fu).2.2.2 with
          | some l =>
            as_aux_lemma =>
              obtain ⟨L, hL⟩ : ∃ x, x = l.list.length := ⟨_, rfl⟩
              have HFX : Hid (Fine sx fx (k + 1 + 1)) := Lib.hid (by rw [hsx, hfx]; exact (open_fine HF.out).1)
              have HLX : Hid (FineL sx l) := Lib.hid (by rw [hsx]; exact (open_fine HF.out).2 l ho)
              have HO1 := Lib.hid (pd_open1 HD.out HF.out hk40 ho)
              rw [← hsx, ← hfx, ← hL] at HO1
              have HO2 : Hid (∀ W P' v row, Mid w W P' R d f m g v A (.cells #[.int .i64 4, .string tx, .int .i64 nn, .int .u64 (kp : Int)] 45) sx s fx fu l row → Calls Try.prog 14 #[.pointer (some ⟨m, 0, none⟩)] W fun e w' => ∃ U v2 la lc, e = .returned (.tuple #[.pointer (some ⟨v2, 0, none⟩), .int .i64 0]) ∧ Pair w w' P' U d f m g v v2 A (.cells #[.int .i64 4, .string tx, .int .i64 nn, .int .u64 (kp : Int)] 45) sx sx fx fx l l ∧ w'.cell? ⟨v2, 3, none⟩ = some (.slice la L lc) ∧ Vals w' (.slice la L lc) (strs l.list) ∧ Vals w' row (strs l.list)) := Lib.hid (fun W P' v row h => by have := pd_open2 h HF.out hk40 ho; rw [← hsx, ← hfx, ← hL] at this; exact this)
              have HLL : Hid (l.list.length ≤ 20000) := Lib.hid (by have h1 := HLX.out.len; have h2 : sx.half ≤ 512 := (by rw [hsx]; exact half_open HD.out.p.good); omega)
              clear hsx hfx hL ho HF
              go_wp2_with fail
              refine HO1.out.mono ?_
              rintro e w10 ⟨P10, v, ra, rc, rfl, h10⟩
              have H10 := Lib.hid h10
              clear h10 HO1 HD
              go_wp2_with fail
              refine (HO2.out _ _ _ _ H10.out).mono ?_
              rintro e w11 ⟨U, v2, la, lc, rfl, h11, c3, va, vb⟩
              have H11 := Lib.hid h11
              have HSM := Lib.hid (same_any l.list l.list _ _ w11 vb va HLL.out)
              rw [same_self] at HSM
              clear h11 va vb H10 HO2 HLL
              go_wp2_with fail
              refine HSM.out.mono ?_
              rintro e w12 ⟨rfl, hb12⟩
              have HX := Lib.hid (H11.out.under hb12)
              clear hb12 H11 HSM c3
              go_wp2
              obtain ⟨Rm, hRm⟩ : ∃ x : Int, x = (sx.half : Int) - 1 - (l.list.length : Int) := ⟨_, rfl⟩
              obtain ⟨Gn, hGn⟩ : ∃ x : Nat, x = l.gen := ⟨_, rfl⟩
              obtain ⟨bk, hbk⟩ : ∃ x : Bool, x = l.broken := ⟨_, rfl⟩
              have HR1 : Hid (∀ W, Pair w W P10 U d f m g v v2 A (.cells #[.int .i64 4, .string tx, .int .i64 nn, .int .u64 (kp : Int)] 45) sx sx fx fx l l → Calls Try.prog 24 #[.pointer (some ⟨v, 0, none⟩)] W fun e w' => e = .returned (.int .i64 Rm) ∧ Alike w' W) := Lib.hid (fun W h => by rw [hRm]; exact pair_room1 h HLX.out)
              have HR2 : Hid (∀ W, Pair w W P10 U d f m g v v2 A (.cells #[.int .i64 4, .string tx, .int .i64 nn, .int .u64 (kp : Int)] 45) sx sx fx fx l l → Calls Try.prog 25 #[.pointer (some ⟨v2, 0, none⟩)] W fun e w' => e = .returned (.int .i64 Rm) ∧ Alike w' W) := Lib.hid (fun W h => by rw [hRm]; exact pair_room2 h HLX.out)
              have HR3 : Hid (∀ W, Pair w W P10 U d f m g v v2 A (.cells #[.int .i64 4, .string tx, .int .i64 nn, .int .u64 (kp : Int)] 45) sx sx fx fx l l → Calls Try.prog 26 #[.pointer (some ⟨v, 0, none⟩)] W fun e w' => e = .returned (.int .i64 (Gn : Int)) ∧ W = w') := Lib.hid (fun W h => by rw [hGn]; exact gen_any h.p)
              have HR4 : Hid (∀ W, Pair w W P10 U d f m g v v2 A (.cells #[.int .i64 4, .string tx, .int .i64 nn, .int .u64 (kp : Int)] 45) sx sx fx fx l l → Calls Try.prog 27 #[.pointer (some ⟨v, 0, none⟩)] W fun e w' => e = .returned (.bool bk) ∧ W = w') := Lib.hid (fun W h => by rw [hbk]; exact broken_any h.p)
              have HC2 : Hid (∀ W, Pair w W P10 U d f m g v v2 A (.cells #[.int .i64 4, .string tx, .int .i64 nn, .int .u64 (kp : Int)] 45) sx sx fx fx l l → W.cell? ⟨v2, 2, none⟩ = some (.int .i64 (Gn : Int)) ∧ W.cell? ⟨v2, 4, none⟩ = some (.bool bk)) := Lib.hid (fun W h => by rw [hGn, hbk]; exact ⟨h.c2, h.c4⟩)
              clear hRm hGn hbk
              have x1 := HC2.out _ HX.out
              go_region_held3 (fun wx => wx.cell? ⟨v2, 2, none⟩ = some (.int .i64 (Gn : Int)) ∧ wx.cell? ⟨v2, 4, none⟩ = some (.bool bk)) (first | exact x3 | exact x2 | exact x1) (first | (go_at_call 24; refine (HR1.out _ HX.out.drew).mono ?_; rintro e wb ⟨rfl, ha1⟩; have hb1 := HX.out.drew.alike ha1; have x2 := HC2.out _ hb1) | (go_at_call 25; refine (HR2.out _ hb1).mono ?_; rintro e wc ⟨rfl, ha2⟩; have hb2 := hb1.alike ha2; have x3 := HC2.out _ hb2) | (go_at_call 26; refine (HR3.out _ hb2).mono ?_; rintro e w' ⟨rfl, rfl⟩) | (go_at_call 27; refine (HR4.out _ hb2).mono ?_; rintro e w' ⟨rfl, rfl⟩))
              have HZ := Lib.hid hb2
              clear hb2 hb1 ha1 ha2 x1 x2 x3 HR1 HR2 HR3 HR4 HC2 HX
              go_wp2
              go_roundg (xs.length - (k + 1))
              case measure => have := HGG.out; omega
              case rel => exact ⟨k + 1, Lib.hid rfl, by omega, by go_num, Lib.hid (.inl ⟨P10, U, v, v2, A, _, sx, fx, l, rfl, rfl, HZ.out, HFX.out, HLX.out⟩)⟩
          | none =>
            as_aux_lemma =>
              have HFX : Hid (Fine sx fx (k + 1 + 1)) := Lib.hid (by rw [hsx, hfx]; exact (open_fine HF.out).1)
              have HO1 := Lib.hid (pd_open1n HD.out HF.out hk40 ho)
              rw [← hsx, ← hfx] at HO1
              have HO2 : Hid (∀ W P', PairD w W P' R d f m g A (.cells #[.int .i64 4, .string tx, .int .i64 nn, .int .u64 (kp : Int)] 45) sx s fx fu → Calls Try.prog 14 #[.pointer (some ⟨m, 0, none⟩)] W fun e w' => e = .returned (.tuple #[.pointer none, .int .i64 2]) ∧ ∃ R', PairD w w' P' R' d f m g A (.cells #[.int .i64 4, .string tx, .int .i64 nn, .int .u64 (kp : Int)] 45) sx sx fx fx) := Lib.hid (fun W P' h => by have := pd_open2n h HF.out hk40 ho; rw [← hsx, ← hfx] at this; exact this)
              clear hsx hfx ho HF
              go_wp2_with fail
              refine HO1.out.mono ?_
              rintro e w10 ⟨rfl, P10, h10⟩
              have H10 := Lib.hid h10
              clear h10 HO1 HD
              go_wp2_with fail
              refine (HO2.out _ _ H10.out).mono ?_
              rintro e w11 ⟨rfl, R11, h11⟩
              have HX := Lib.hid h11
              clear h11 H10 HO2
              go_wp2
              go_quiet (fail)
              obtain ⟨Wq, hWq⟩ : ∃ W, W = w11.drewN nq := ⟨_, rfl⟩
              rw [← hWq]
              have HZ : Hid (PairD w Wq P10 R11 d f m g A (.cells #[.int .i64 4, .string tx, .int .i64 nn, .int .u64 (kp : Int)] 45) sx sx fx fx) := by rw [hWq]; exact Lib.hid (HX.out.alike ⟨rfl, rfl, rfl, rfl⟩)
              clear hWq HX
              go_wp2
              go_roundg (xs.length - (k + 1))
              case measure => have := HGG.out; omega
              case rel => exact ⟨k + 1, Lib.hid rfl, by omega, by go_num, Lib.hid (.inr ⟨P10, R11, A, _, sx, fx, rfl, rfl, HZ.out, HFX.out⟩)⟩
      have n4 : (kd == 4) = false := by simpa using h4
      by_cases h5 : kd = 5
      · subst h5
        clear h1 n1 h2 n2 h3 n3 h4 n4
        as_aux_lemma =>
          obtain ⟨P, R, A0, blk0, s, fu, hpair, hfine⟩ := HP.out.disks
          have HF := Lib.hid hfine
          clear hfine HP
          have HD : Hid (PairD w wa P R d f m g A (.cells #[.int .i64 5, .string tx, .int .i64 nn, .int .u64 (kp : Int)] 45) s s fu fu) := by rw [hwa, hAA]; exact Lib.hid (hpair.next _)
          clear hpair
          have y0 := cellA0 HD.out.ha
          obtain ⟨sx, hsx⟩ : ∃ x, x = (openR s fu).2.1 := ⟨_, rfl⟩
          obtain ⟨fx, hfx⟩ : ∃ x, x = (openR s fu).2.2.1 := ⟨_, rfl⟩
          cases ho : (openR s fu).2.2.2 with
          | some l =>
            as_aux_lemma =>
              obtain ⟨L, hL⟩ : ∃ x, x = l.list.length := ⟨_, rfl⟩
              have HFX : Hid (Fine sx fx (k + 1 + 1)) := Lib.hid (by rw [hsx, hfx]; exact (open_fine HF.out).1)
              have HLX : Hid (FineL sx l) := Lib.hid (by rw [hsx]; exact (open_fine HF.out).2 l ho)
              have HO1 := Lib.hid (pd_open1 HD.out HF.out hk40 ho)
              rw [← hsx, ← hfx, ← hL] at HO1
              have HO2 : Hid (∀ W P' v row, Mid w W P' R d f m g v A (.cells #[.int .i64 5, .string tx, .int .i64 nn, .int .u64 (kp : Int)] 45) sx s fx fu l row → Calls Try.prog 14 #[.pointer (some ⟨m, 0, none⟩)] W fun e w' => ∃ U v2 la lc, e = .returned (.tuple #[.pointer (some ⟨v2, 0, none⟩), .int .i64 0]) ∧ Pair w w' P' U d f m g v v2 A (.cells #[.int .i64 5, .string tx, .int .i64 nn, .int .u64 (kp : Int)] 45) sx sx fx fx l l ∧ w'.cell? ⟨v2, 3, none⟩ = some (.slice la L lc) ∧ Vals w' (.slice la L lc) (strs l.list) ∧ Vals w' row (strs l.list)) := Lib.hid (fun W P' v row h => by have := pd_open2 h HF.out hk40 ho; rw [← hsx, ← hfx, ← hL] at this; exact this)
              have HLL : Hid (l.list.length ≤ 20000) := Lib.hid (by have h1 := HLX.out.len; have h2 : sx.half ≤ 512 := (by rw [hsx]; exact half_open HD.out.p.good); omega)
              clear hsx hfx hL ho HF
              go_wp2_with fail
              rw [← hwa]
              clear hwa hAA k0 k1 k2 k3 y0
              refine HO1.out.mono ?_
              rintro e w10 ⟨P10, v, ra, rc, rfl, h10⟩
              have H10 := Lib.hid h10
              clear h10 HO1 HD
              go_wp2_with fail
              refine (HO2.out _ _ _ _ H10.out).mono ?_
              rintro e w11 ⟨U, v2, la, lc, rfl, h11, c3, va, vb⟩
              have H11 := Lib.hid h11
              have HSM := Lib.hid (same_any l.list l.list _ _ w11 vb va HLL.out)
              rw [same_self] at HSM
              clear h11 va vb H10 HO2 HLL
              go_wp2_with fail
              refine HSM.out.mono ?_
              rintro e w12 ⟨rfl, hb12⟩
              have HX := Lib.hid (H11.out.under hb12)
              clear hb12 H11 HSM c3
              go_wp2
              obtain ⟨Rm, hRm⟩ : ∃ x : Int, x = (sx.half : Int) - 1 - (l.list.length : Int) := ⟨_, rfl⟩
              obtain ⟨Gn, hGn⟩ : ∃ x : Nat, x = l.gen := ⟨_, rfl⟩
              obtain ⟨bk, hbk⟩ : ∃ x : Bool, x = l.broken := ⟨_, rfl⟩
              have HR1 : Hid (∀ W, Pair w W P10 U d f m g v v2 A (.cells #[.int .i64 5, .string tx, .int .i64 nn, .int .u64 (kp : Int)] 45) sx sx fx fx l l → Calls Try.prog 24 #[.pointer (some ⟨v, 0, none⟩)] W fun e w' => e = .returned (.int .i64 Rm) ∧ Alike w' W) := Lib.hid (fun W h => by rw [hRm]; exact pair_room1 h HLX.out)
              have HR2 : Hid (∀ W, Pair w W P10 U d f m g v v2 A (.cells #[.int .i64 5, .string tx, .int .i64 nn, .int .u64 (kp : Int)] 45) sx sx fx fx l l → Calls Try.prog 25 #[.pointer (some ⟨v2, 0, none⟩)] W fun e w' => e = .returned (.int .i64 Rm) ∧ Alike w' W) := Lib.hid (fun W h => by rw [hRm]; exact pair_room2 h HLX.out)
              have HR3 : Hid (∀ W, Pair w W P10 U d f m g v v2 A (.cells #[.int .i64 5, .string tx, .int .i64 nn, .int .u64 (kp : Int)] 45) sx sx fx fx l l → Calls Try.prog 26 #[.pointer (some ⟨v, 0, none⟩)] W fun e w' => e = .returned (.int .i64 (Gn : Int)) ∧ W = w') := Lib.hid (fun W h => by rw [hGn]; exact gen_any h.p)
              have HR4 : Hid (∀ W, Pair w W P10 U d f m g v v2 A (.cells #[.int .i64 5, .string tx, .int .i64 nn, .int .u64 (kp : Int)] 45) sx sx fx fx l l → Calls Try.prog 27 #[.pointer (some ⟨v, 0, none⟩)] W fun e w' => e = .returned (.bool bk) ∧ W = w') := Lib.hid (fun W h => by rw [hbk]; exact broken_any h.p)
              have HC2 : Hid (∀ W, Pair w W P10 U d f m g v v2 A (.cells #[.int .i64 5, .string tx, .int .i64 nn, .int .u64 (kp : Int)] 45) sx sx fx fx l l → W.cell? ⟨v2, 2, none⟩ = some (.int .i64 (Gn : Int)) ∧ W.cell? ⟨v2, 4, none⟩ = some (.bool bk)) := Lib.hid (fun W h => by rw [hGn, hbk]; exact ⟨h.c2, h.c4⟩)
              clear hRm hGn hbk
              have x1 := HC2.out _ HX.out
              go_region_held3 (fun wx => wx.cell? ⟨v2, 2, none⟩ = some (.int .i64 (Gn : Int)) ∧ wx.cell? ⟨v2, 4, none⟩ = some (.bool bk)) (first | exact x3 | exact x2 | exact x1) (first | (go_at_call 24; refine (HR1.out _ HX.out.drew).mono ?_; rintro e wb ⟨rfl, ha1⟩; have hb1 := HX.out.drew.alike ha1; have x2 := HC2.out _ hb1) | (go_at_call 25; refine (HR2.out _ hb1).mono ?_; rintro e wc ⟨rfl, ha2⟩; have hb2 := hb1.alike ha2; have x3 := HC2.out _ hb2) | (go_at_call 26; refine (HR3.out _ hb2).mono ?_; rintro e w' ⟨rfl, rfl⟩) | (go_at_call 27; refine (HR4.out _ hb2).mono ?_; rintro e w' ⟨rfl, rfl⟩))
              have HZ := Lib.hid hb2
              clear hb2 hb1 ha1 ha2 x1 x2 x3 HR1 HR2 HR3 HR4 HC2 HX
              go_wp2
              go_roundg (xs.length - (k + 1))
              case measure => have := HGG.out; omega
              case rel => exact ⟨k + 1, Lib.hid rfl, by omega, by go_num, Lib.hid (.inl ⟨P10, U, v, v2, A, _, sx, fx, l, rfl, rfl, HZ.out, HFX.out, HLX.out⟩)⟩
          | none =>
            as_aux_lemma =>
              have HFX : Hid (Fine sx fx (k + 1 + 1)) := Lib.hid (by rw [hsx, hfx]; exact (open_fine HF.out).1)
              have HO1 := Lib.hid (pd_open1n HD.out HF.out hk40 ho)
              rw [← hsx, ← hfx] at HO1
              have HO2 : Hid (∀ W P', PairD w W P' R d f m g A (.cells #[.int .i64 5, .string tx, .int .i64 nn, .int .u64 (kp : Int)] 45) sx s fx fu → Calls Try.prog 14 #[.pointer (some ⟨m, 0, none⟩)] W fun e w' => e = .returned (.tuple #[.pointer none, .int .i64 2]) ∧ ∃ R', PairD w w' P' R' d f m g A (.cells #[.int .i64 5, .string tx, .int .i64 nn, .int .u64 (kp : Int)] 45) sx sx fx fx) := Lib.hid (fun W P' h => by have := pd_open2n h HF.out hk40 ho; rw [← hsx, ← hfx] at this; exact this)
              clear hsx hfx ho HF
              go_wp2_with fail
              rw [← hwa]
              clear hwa hAA k0 k1 k2 k3 y0
              refine HO1.out.mono ?_
              rintro e w10 ⟨rfl, P10, h10⟩
              have H10 := Lib.hid h10
              clear h10 HO1 HD
              go_wp2_with fail
              refine (HO2.out _ _ H10.out).mono ?_
              rintro e w11 ⟨rfl, R11, h11⟩
              have HX := Lib.hid h11
              clear h11 H10 HO2
              go_wp2
              go_quiet (fail)
              obtain ⟨Wq, hWq⟩ : ∃ W, W = w11.drewN nq := ⟨_, rfl⟩
              rw [← hWq]
              have HZ : Hid (PairD w Wq P10 R11 d f m g A (.cells #[.int .i64 5, .string tx, .int .i64 nn, .int .u64 (kp : Int)] 45) sx sx fx fx) := by rw [hWq]; exact Lib.hid (HX.out.alike ⟨rfl, rfl, rfl, rfl⟩)
              clear hWq HX
              go_wp2
              go_roundg (xs.length - (k + 1))
              case measure => have := HGG.out; omega
              case rel => exact ⟨k + 1, Lib.hid rfl, by omega, by go_num, Lib.hid (.inr ⟨P10, R11, A, _, sx, fx, rfl, rfl, HZ.out, HFX.out⟩)⟩
      have n5 : (kd == 5) = false := by simpa using h5
      clear h1 h2 h3 h4 h5
      rcases HP.out with hP | hP
      · clear HP
        as_aux_lemma =>
          obtain ⟨P, U, v, v2, A0, blk0, s, fu, l, rfl, rfl, hpair, hfine, hfl⟩ := hP
          have HF := Lib.hid hfine
          have HL := Lib.hid hfl
          clear hfine hfl
          have HA : Hid (Pair w wa P U d f m g v v2 A (.cells #[.int .i64 kd, .string tx, .int .i64 nn, .int .u64 (kp : Int)] 45) s s fu fu l l) := by rw [hwa, hAA]; exact Lib.hid (hpair.next _)
          clear hpair
          have HFX := Lib.hid HF.out.more
          have HLX := HL
          have HX := HA
          go_wp2
          rw [← hwa]
          clear hwa hAA k0 k1 k2 k3 HF HL HA
          obtain ⟨Rm, hRm⟩ : ∃ x : Int, x = (s.half : Int) - 1 - (l.list.length : Int) := ⟨_, rfl⟩
          obtain ⟨Gn, hGn⟩ : ∃ x : Nat, x = l.gen := ⟨_, rfl⟩
          obtain ⟨bk, hbk⟩ : ∃ x : Bool, x = l.broken := ⟨_, rfl⟩
          have HR1 : Hid (∀ W, Pair w W P U d f m g v v2 A (.cells #[.int .i64 kd, .string tx, .int .i64 nn, .int .u64 (kp : Int)] 45) s s fu fu l l → Calls Try.prog 24 #[.pointer (some ⟨v, 0, none⟩)] W fun e w' => e = .returned (.int .i64 Rm) ∧ Alike w' W) := Lib.hid (fun W h => by rw [hRm]; exact pair_room1 h HLX.out)
          have HR2 : Hid (∀ W, Pair w W P U d f m g v v2 A (.cells #[.int .i64 kd, .string tx, .int .i64 nn, .int .u64 (kp : Int)] 45) s s fu fu l l → Calls Try.prog 25 #[.pointer (some ⟨v2, 0, none⟩)] W fun e w' => e = .returned (.int .i64 Rm) ∧ Alike w' W) := Lib.hid (fun W h => by rw [hRm]; exact pair_room2 h HLX.out)
          have HR3 : Hid (∀ W, Pair w W P U d f m g v v2 A (.cells #[.int .i64 kd, .string tx, .int .i64 nn, .int .u64 (kp : Int)] 45) s s fu fu l l → Calls Try.prog 26 #[.pointer (some ⟨v, 0, none⟩)] W fun e w' => e = .returned (.int .i64 (Gn : Int)) ∧ W = w') := Lib.hid (fun W h => by rw [hGn]; exact gen_any h.p)
          have HR4 : Hid (∀ W, Pair w W P U d f m g v v2 A (.cells #[.int .i64 kd, .string tx, .int .i64 nn, .int .u64 (kp : Int)] 45) s s fu fu l l → Calls Try.prog 27 #[.pointer (some ⟨v, 0, none⟩)] W fun e w' => e = .returned (.bool bk) ∧ W = w') := Lib.hid (fun W h => by rw [hbk]; exact broken_any h.p)
          have HC2 : Hid (∀ W, Pair w W P U d f m g v v2 A (.cells #[.int .i64 kd, .string tx, .int .i64 nn, .int .u64 (kp : Int)] 45) s s fu fu l l → W.cell? ⟨v2, 2, none⟩ = some (.int .i64 (Gn : Int)) ∧ W.cell? ⟨v2, 4, none⟩ = some (.bool bk)) := Lib.hid (fun W h => by rw [hGn, hbk]; exact ⟨h.c2, h.c4⟩)
          clear hRm hGn hbk
          have x1 := HC2.out _ HX.out
          go_region_held3 (fun wx => wx.cell? ⟨v2, 2, none⟩ = some (.int .i64 (Gn : Int)) ∧ wx.cell? ⟨v2, 4, none⟩ = some (.bool bk)) (first | exact x3 | exact x2 | exact x1) (first | (go_at_call 24; refine (HR1.out _ HX.out.drew).mono ?_; rintro e wb ⟨rfl, ha1⟩; have hb1 := HX.out.drew.alike ha1; have x2 := HC2.out _ hb1) | (go_at_call 25; refine (HR2.out _ hb1).mono ?_; rintro e wc ⟨rfl, ha2⟩; have hb2 := hb1.alike ha2; have x3 := HC2.out _ hb2) | (go_at_call 26; refine (HR3.out _ hb2).mono ?_; rintro e w' ⟨rfl, rfl⟩) | (go_at_call 27; refine (HR4.out _ hb2).mono ?_; rintro e w' ⟨rfl, rfl⟩))
          have HZ := Lib.hid hb2
          clear hb2 hb1 ha1 ha2 x1 x2 x3 HR1 HR2 HR3 HR4 HC2 HX
          go_wp2
          go_roundg (xs.length - (k + 1))
          case measure => have := HGG.out; omega
          case rel => exact ⟨k + 1, Lib.hid rfl, by omega, by go_num, Lib.hid (.inl ⟨P, U, v, v2, A, _, s, fu, l, rfl, rfl, HZ.out, HFX.out, HLX.out⟩)⟩
      · clear HP
        as_aux_lemma =>
          obtain ⟨P, R, A0, blk0, s, fu, rfl, rfl, hpair, hfine⟩ := hP
          have HF := Lib.hid hfine
          clear hfine
          have HA : Hid (PairD w wa P R d f m g A (.cells #[.int .i64 kd, .string tx, .int .i64 nn, .int .u64 (kp : Int)] 45) s s fu fu) := by rw [hwa, hAA]; exact Lib.hid (hpair.next _)
          clear hpair
          have HFX := Lib.hid HF.out.more
          have HX := HA
          go_wp2
          rw [← hwa]
          clear hwa hAA k0 k1 k2 k3 HF HA
          go_quiet (fail)
          obtain ⟨Wq, hWq⟩ : ∃ W, W = wa.drewN nq := ⟨_, rfl⟩
          rw [← hWq]
          have HZ : Hid (PairD w Wq P R d f m g A (.cells #[.int .i64 kd, .string tx, .int .i64 nn, .int .u64 (kp : Int)] 45) s s fu fu) := by rw [hWq]; exact Lib.hid (HX.out.alike ⟨rfl, rfl, rfl, rfl⟩)
          clear hWq HX
          go_wp2
          go_roundg (xs.length - (k + 1))
          case measure => have := HGG.out; omega
          case rel => exact ⟨k + 1, Lib.hid rfl, by omega, by go_num, Lib.hid (.inr ⟨P, R, A, _, s, fu, rfl, rfl, HZ.out, HFX.out⟩)⟩
    · go_wp2
      go_ret
      exact ⟨rfl, HP.out.below⟩

theorem walk (a0 a1 : Int) (v : Value) (w : World) (hv : Acts w v) : Calls Try.prog 3 #[.agg #[.int .i64 a0, .int .i64 a1], v] w (Holds w) := by
  obtain ⟨xs, hx⟩ := hv.some
  have hx' := hx
  obtain ⟨A, c, rfl, _⟩ := hx'
  cases hg : greatB a1 xs with
  | true => exact walk_great a0 a1 A c xs w hx hg
  | false => exact walk_main a0 a1 A c xs w hx hg

/-! From the walk to the given row. -/
set_option maxRecDepth 100000 in
theorem lifted (os : Os) (started : os.Started) (H : Type) (enc : TypeId × Value → H) :
    ReturnsInHanded {} Try.checked os 3 .any (Rows.walPlaysSpec.pre6 enc Try.prog Try.f3 Rows.walPlaysRow.domain false) (Rows.walPlaysSpec.post enc Try.prog Try.f3 false true false false) := by
  refine returnsInHanded_of_change (C := Try.checked) t_own started (by kernel_rfl) Try.func3
    (ChangeSpec.witness6 (enc := enc) (C := Try.checked) false ⟨#[], #[.agg #[.int .i64 0, .int .i64 0], .slice none 0 0], []⟩ 8 (by kernel_rfl) (by kernel_rfl) (by kernel_rfl) (by kernel_rfl)) ?_
  intro W base args ds gs before hval0 hW hcnd _
  have hval : ∀ (j : Nat) t v, Try.f3.params[j]? = some t → args[j]? = some v → Value.okWide Try.prog W .any base t v := hval0
  have hW' := hW
  obtain ⟨p, q, hA0, hV, rfl, hfz, hnd⟩ := hW
  have hA : DataW.TrodAll enc Try.prog W 0 (fun _ => true) true Try.f3.params.toList args.toList ds p := hA0
  rw [Try.params3] at hA hval
  obtain ⟨v0, vs0, d0, ds0, p0, q0, hargs, rfl, rfl, h0, r0⟩ := trodAll_cons hA
  obtain ⟨v1, vs1, d1, ds1, p1, q1, rfl, rfl, rfl, h1, r1⟩ := trodAll_cons r0
  obtain ⟨rfl, rfl, rfl⟩ := trodAll_nil r1
  obtain rfl : args = #[v0, v1] := by cases args; simp_all
  obtain ⟨a0, a1, rfl, _, _⟩ := open_two (hval 0 22 v0 rfl rfl) h0
  have hacts := open_acts (hval 1 23 v1 rfl rfl) h1
  refine (walk a0 a1 v1 W hacts).mono fun e W' ⟨he, hb⟩ => ?_
  subst he
  exact ⟨_, rfl, post_of_holds hW' (by kernel_rfl) rfl (by rw [Try.params3]; exact fun t ht => params_ok t (by simp at ht; rcases ht with rfl | rfl <;> simp)) ⟨rfl, rfl, rfl⟩ hb⟩

/-- The given statement. -/
theorem proved : Rows.WalPlaysSaid :=
  OpenClaim.holds_of_wide 3 Try.f3 rfl rfl rfl rfl rfl rfl rfl ⟨rfl, rfl, rfl, rfl, rfl⟩ rfl rfl rfl rfl rfl (by kernel_rfl) Try.func3 (by kernel_rfl)
    (of_decide_eq_true (by kernel_rfl)) (by unfold Func.isWrapper; first | (rw [if_pos (by decide +kernel)]; kernel_rfl) | (rw [if_neg (by decide +kernel)]; exact ⟨rfl, rfl⟩))
    (fun os started H enc _ => lifted os started H enc)
#print axioms proved
end Go.Proofs.Ytooikkjgcpngdaa.walPlays

