/-
  switchback's WalOpens: opened twice, a log has the same records, room and generation; a fresh disk's has none. For every input the call returns true, and each argument reads afterwards as it read before. No condition.
-/
import Derived.Test.YtooikkjgcpngdaaGreat
namespace Go.Proofs.Ytooikkjgcpngdaa.walOpens
open Go.ChangeShapes Go.WideShapes Go.ChangeAt Go.RowKit
open Fr (Rec secB valL lenV)

set_option maxRecDepth 100000 in
set_option maxHeartbeats 4000000 in
theorem walk_great (a0 a1 : Int) (A : Option Addr) (c : Nat) (xs : List Ac) (w : World) (hx : ActsX w (.slice A xs.length c) xs) (hg : greatB a1 xs = true) : Calls Try.prog 4 #[.agg #[.int .i64 a0, .int .i64 a1], .slice A xs.length c] w (Holds w) := by
  have HX := Lib.hid hx
  have HGV := Lib.hid hg
  clear hx hg
  go_enter Try.func4, Try.ntmps4
  obtain ⟨Z, hZ⟩ : ∃ Z, Z = w.heap.size := ⟨_, rfl⟩
  obtain ⟨wz, hwz⟩ : ∃ wz, wz = w.alloc (.cells #[.int .i64 a0, .int .i64 a1] 22) := ⟨_, rfl⟩
  have z0 : wz.cell? ⟨Z, 0, none⟩ = some (.int .i64 a0) := by rw [hwz, hZ]; simp
  have z1 : wz.cell? ⟨Z, 1, none⟩ = some (.int .i64 a1) := by rw [hwz, hZ]; simp
  have HBz : Hid (Below w.heap.size w wz) := by rw [hwz]; exact Lib.hid ((Below.refl _ _).alloc (Nat.le_refl _) _)
  have HSz : Hid (Z < wz.heap.size) := by rw [hwz, hZ]; exact Lib.hid (by simp)
  have HZE := Lib.hid hZ
  go_wp2_with fail
  rw [← hwz, ← hZ]
  clear hwz hZ
  refine (new_any _).mono ?_
  rintro e w1 ⟨f, rfl, hg, hz, hb⟩
  have HZ1 := Lib.hid hz
  have HB1 := Lib.hid (HBz.out.trans (hb.mono HBz.out.size))
  have HG : Hid (w.heap.size ≤ f) := Lib.hid (by rw [← hg]; exact HBz.out.size)
  have HS1 : Hid (Z < w1.heap.size) := Lib.hid (Nat.lt_of_lt_of_le HSz.out hb.size)
  have v0 := (hb.cell (p := ⟨Z, 0, none⟩) HSz.out).trans z0
  have v1 := (hb.cell (p := ⟨Z, 1, none⟩) HSz.out).trans z1
  clear hz hb hg z0 z1 HBz HSz
  go_wp2_with fail
  refine (awake_yes _).mono ?_
  rintro e w2 ⟨rfl, hb⟩
  have HB2 := Lib.hid (HB1.out.trans (hb.mono HB1.out.size))
  have HZ2 := Lib.hid (HZ1.out.under hb HZ1.out.lt)
  have HS2 : Hid (Z < w2.heap.size) := Lib.hid (Nat.lt_of_lt_of_le HS1.out hb.size)
  have u0 := (hb.cell (p := ⟨Z, 0, none⟩) HS1.out).trans v0
  have u1 := (hb.cell (p := ⟨Z, 1, none⟩) HS1.out).trans v1
  clear hb HZ1 v0 v1 HS1
  have HGR := Lib.hid (great_any a0 a1 _ xs w2 (HX.out.under HB2.out rfl))
  rw [HGV.out] at HGR
  go_wp2_with fail
  refine HGR.out.mono ?_
  rintro e w3 ⟨rfl, hb⟩
  have HB3 := Lib.hid (HB2.out.trans (hb.mono HB2.out.size))
  have HZ3 := Lib.hid (HZ2.out.under hb HZ2.out.lt)
  have r0 := (hb.cell (p := ⟨Z, 0, none⟩) HS2.out).trans u0
  have r1 := (hb.cell (p := ⟨Z, 1, none⟩) HS2.out).trans u1
  clear hb HZ2 u0 u1 HS2
  go_wp2_with fail
  refine (awake_yes _).mono ?_
  rintro e w4 ⟨rfl, hb⟩
  have HB4 := Lib.hid (HB3.out.trans (hb.mono HB3.out.size))
  clear hb
  go_wp2
  go_ret
  exact ⟨rfl, HB4.out⟩

set_option maxRecDepth 100000 in
set_option maxHeartbeats 4000000 in
theorem walk_main (a0 a1 : Int) (A : Option Addr) (c : Nat) (xs : List Ac) (w : World) (hx : ActsX w (.slice A xs.length c) xs) (hg : greatB a1 xs = false) : Calls Try.prog 4 #[.agg #[.int .i64 a0, .int .i64 a1], .slice A xs.length c] w (Holds w) := by
  have HX := Lib.hid hx
  have HGV := Lib.hid hg
  obtain ⟨g1, g2, g3⟩ := great_no hg
  have HBG := Lib.hid g3
  obtain ⟨z, hz⟩ : ∃ z : Nat, (z : Int) = min (max a0 128) 1024 := ⟨(min (max a0 128) 1024).toNat, by omega⟩
  obtain ⟨m, hm⟩ : ∃ n : Nat, (n : Int) = min (max a1 4) 1024 := ⟨(min (max a1 4) 1024).toNat, by omega⟩
  have hzb : 128 ≤ z ∧ z ≤ 1024 := by omega
  have hmb : 4 ≤ m ∧ m ≤ 24 := by omega
  obtain ⟨hf, hhf⟩ : ∃ hf, hf = m / 2 := ⟨_, rfl⟩
  have eh : (m : Int) / 2 = (hf : Int) := by omega
  have hf2 : hf ≤ 12 := by omega
  have HHF := Lib.hid hhf
  have HZN := Lib.hid hz
  have HMN := Lib.hid hm
  clear hx hg g2 g3 hz hm hhf
  go_enter Try.func4, Try.ntmps4
  obtain ⟨Z, hZ⟩ : ∃ Z, Z = w.heap.size := ⟨_, rfl⟩
  obtain ⟨wz, hwz⟩ : ∃ wz, wz = w.alloc (.cells #[.int .i64 a0, .int .i64 a1] 22) := ⟨_, rfl⟩
  have z0 : wz.cell? ⟨Z, 0, none⟩ = some (.int .i64 a0) := by rw [hwz, hZ]; simp
  have z1 : wz.cell? ⟨Z, 1, none⟩ = some (.int .i64 a1) := by rw [hwz, hZ]; simp
  have HBz : Hid (Below w.heap.size w wz) := by rw [hwz]; exact Lib.hid ((Below.refl _ _).alloc (Nat.le_refl _) _)
  have HSz : Hid (Z < wz.heap.size) := by rw [hwz, hZ]; exact Lib.hid (by simp)
  have HZE := Lib.hid hZ
  go_wp2_with fail
  rw [← hwz, ← hZ]
  clear hwz hZ
  refine (new_any _).mono ?_
  rintro e w1 ⟨f, rfl, hg, hz, hb⟩
  have HZ1 := Lib.hid hz
  have HB1 := Lib.hid (HBz.out.trans (hb.mono HBz.out.size))
  have HG : Hid (w.heap.size ≤ f) := Lib.hid (by rw [← hg]; exact HBz.out.size)
  have HS1 : Hid (Z < w1.heap.size) := Lib.hid (Nat.lt_of_lt_of_le HSz.out hb.size)
  have v0 := (hb.cell (p := ⟨Z, 0, none⟩) HSz.out).trans z0
  have v1 := (hb.cell (p := ⟨Z, 1, none⟩) HSz.out).trans z1
  clear hz hb hg z0 z1 HBz HSz
  go_wp2_with fail
  refine (awake_yes _).mono ?_
  rintro e w2 ⟨rfl, hb⟩
  have HB2 := Lib.hid (HB1.out.trans (hb.mono HB1.out.size))
  have HZ2 := Lib.hid (HZ1.out.under hb HZ1.out.lt)
  have HS2 : Hid (Z < w2.heap.size) := Lib.hid (Nat.lt_of_lt_of_le HS1.out hb.size)
  have u0 := (hb.cell (p := ⟨Z, 0, none⟩) HS1.out).trans v0
  have u1 := (hb.cell (p := ⟨Z, 1, none⟩) HS1.out).trans v1
  clear hb HZ1 v0 v1 HS1
  have HGR := Lib.hid (great_any a0 a1 _ xs w2 (HX.out.under HB2.out rfl))
  rw [HGV.out] at HGR
  go_wp2_with fail
  refine HGR.out.mono ?_
  rintro e w3 ⟨rfl, hb⟩
  have HB3 := Lib.hid (HB2.out.trans (hb.mono HB2.out.size))
  have HZ3 := Lib.hid (HZ2.out.under hb HZ2.out.lt)
  have r0 := (hb.cell (p := ⟨Z, 0, none⟩) HS2.out).trans u0
  have r1 := (hb.cell (p := ⟨Z, 1, none⟩) HS2.out).trans u1
  clear hb HZ2 u0 u1 HS2
  go_wp2_with fail
  refine (new_D (B := w.heap.size) a0 a1 z m HZN.out HMN.out HZ3.out new_good HG.out HB3.out.size).mono ?_
  rintro e w4 ⟨d, P4, rfl, hd, hb, hp⟩
  have HD4 := Lib.hid hd
  have HB4 := Lib.hid (HB3.out.trans (hb.mono HB3.out.size))
  clear hd hb hp HZ3 r0 r1
  go_wp2_with fail
  refine (st_fresh HD4.out hzb.1 hzb.2 hmb.1 (by omega) HB4.out.size).mono ?_
  rintro e w5 ⟨U5, v, ra, rc, rfl, hs, hb⟩
  have H5 := Lib.hid hs
  have HB5 := Lib.hid (HB4.out.trans hb)
  clear hs hb
  go_wp2_with fail
  refine (st_gen H5.out).mono ?_
  rintro e w' ⟨rfl, rfl⟩
  have HR := Lib.hid (st_room H5.out)
  rw [show (((m / 2 : Nat) : Int) - 1 - ((⟨0, 1, [], false⟩ : Lg).list.length : Int)) = (hf : Int) - 1 from by rw [HHF.out]; simp] at HR
  go_wp2_with fail
  refine HR.out.mono ?_
  rintro e w6 ⟨rfl, ha⟩
  have H6 := Lib.hid (H5.out.alike ha)
  have HB6 := Lib.hid (below_alike HB5.out ha)
  clear ha
  go_wp2_with fail
  refine (st_len H6.out).mono ?_
  rintro e w' ⟨rfl, rfl⟩
  go_wp2
  go_loopg [68] xs.length (fun gg i wr => ∃ (k : Nat) (U : Nat → Prop) (l : Lg), Hid (gg = xs.length - k) ∧ k ≤ xs.length ∧ i = .int .i64 (k : Int) ∧ Hid (St wr w.heap.size U d f v z m l (2 + 4 * k)) ∧ Hid (Below w.heap.size w wr))
  case atStart => exact ⟨0, U5, _, Lib.hid rfl, Nat.zero_le _, rfl, H6, HB6⟩
  case round =>
    obtain ⟨k, U, l, HGG, hk, rfl, HS, HBL⟩ := hrel
    by_cases hlt : k < xs.length
    · obtain ⟨b, off, rfl, hb, hL⟩ := HX.out.kth HBL.out hlt
      have htx := bigB_is HBG.out k hlt
      obtain ⟨⟨kd, tx, nn, kp⟩, hA⟩ : ∃ A, A = xs[k] := ⟨_, rfl⟩
      rw [← hA] at hL htx
      obtain ⟨k0, k1, k2, k3, b1, b2, b3⟩ := hL
      simp only at k0 k1 k2 k3 b1 b2 b3 htx
      have HT3 := Lib.hid b3
      clear hA b1 b2 b3
      obtain ⟨A, hAA⟩ : ∃ A, A = wr.heap.size := ⟨_, rfl⟩
      obtain ⟨wa, hwa⟩ : ∃ wa, wa = wr.alloc (.cells #[.int .i64 kd, .string tx, .int .i64 nn, .int .u64 (kp : Int)] 45) := ⟨_, rfl⟩
      have q0 : wa.cell? ⟨A, 0, none⟩ = some (.int .i64 kd) := by rw [hwa, hAA]; simp
      have q1 : wa.cell? ⟨A, 1, none⟩ = some (.string tx) := by rw [hwa, hAA]; simp
      have HSa : Hid (St wa w.heap.size U d f v z m l (2 + 4 * k)) := by rw [hwa]; exact Lib.hid (HS.out.under ((Below.refl _ _).alloc (Nat.le_refl _) _))
      have HBa : Hid (Below w.heap.size w wa) := by rw [hwa]; exact Lib.hid (HBL.out.alloc HBL.out.size _)
      have HAa : Hid (A < wa.heap.size) := by rw [hwa, hAA]; exact Lib.hid (by simp)
      have HNA : Hid (¬ U A) := Lib.hid (fun hu => by have := (HS.out.lt _ hu).2; omega)
      by_cases h1 : kd = 1
      · subst h1
        go_wp2_with fail
        rw [← hwa, ← hAA]
        clear hwa hAA k0 k1 k2 k3
        refine (st_append tx HT3.out HSa.out (by omega) HBa.out.size).mono ?_
        rintro e w7 ⟨rfl, U7, hs, _, hk7⟩
        have H7 := Lib.hid (hs.more (n' := 2 + 4 * (k + 1)) (by omega))
        have HB7 := Lib.hid (HBa.out.trans (HSa.out.below hk7 HBa.out.size))
        have q7 : w7.cell? ⟨A, 0, none⟩ = some (.int .i64 1) := (World.cell?_of_block (a := ⟨A, 0, none⟩) (hk7.block A HAa.out HNA.out)).trans q0
        clear hs hk7 q0 q1
        go_wp2
        go_roundg (xs.length - (k + 1))
        case measure => have := HGG.out; omega
        case rel => exact ⟨k + 1, U7, _, Lib.hid rfl, by omega, by go_num, H7, HB7⟩
      · have n1 : (kd == 1) = false := by simpa using h1
        by_cases h2 : kd = 2
        · subst h2
          clear h1 n1
          go_wp2_with fail
          rw [← hwa, ← hAA]
          clear hwa hAA k0 k1 k2 k3
          refine (st_check tx HT3.out HSa.out (by omega) HBa.out.size).mono ?_
          rintro e w7 ⟨rfl, U7, hs, _, hk7⟩
          have H7 := Lib.hid (hs.more (n' := 2 + 4 * (k + 1)) (by omega))
          have HB7 := Lib.hid (HBa.out.trans (HSa.out.below hk7 HBa.out.size))
          clear hs hk7 q0 q1
          go_wp2
          go_roundg (xs.length - (k + 1))
          case measure => have := HGG.out; omega
          case rel => exact ⟨k + 1, U7, _, Lib.hid rfl, by omega, by go_num, H7, HB7⟩
        · have n2 : (kd == 2) = false := by simpa using h2
          clear h1 h2 q0 q1
          go_wp2
          rw [← hwa]
          clear hwa hAA k0 k1 k2 k3
          go_roundg (xs.length - (k + 1))
          case measure => have := HGG.out; omega
          case rel => exact ⟨k + 1, U, l, Lib.hid rfl, by omega, by go_num, Lib.hid (HSa.out.more (by omega)), HBa⟩
    · obtain ⟨P, s, fu, hL0, _, _, hsz, hsm, _⟩ := HS.out
      have H7 := Lib.hid hL0
      have hlen := hL0.half
      have HHS : Hid (s.half = hf) := Lib.hid (by unfold Dk.half; rw [hsm, HHF.out])
      rw [HHS.out] at hlen
      have HLEN : Hid (∀ W Q v', LogP W w.heap.size Q d f s fu v' l (2 + 4 * k) → Calls Try.prog 28 #[.pointer (some ⟨d, 0, none⟩)] W fun e w' => e = .returned (.int .i64 (m : Int)) ∧ W = w') := Lib.hid (fun W Q v' h => by rw [← hsm]; exact len_D h.wal.dsk)
      obtain ⟨L, hLL⟩ : ∃ L, L = l.list.length := ⟨_, rfl⟩
      rw [← hLL] at hlen
      have HL := Lib.hid hLL
      obtain ⟨R, hRR⟩ : ∃ R : Int, R = (s.half : Int) - 1 - (l.list.length : Int) := ⟨_, rfl⟩
      have HRE := Lib.hid hRR
      have hRL : (hf : Int) - 1 - R = (L : Int) := by rw [hRR, HHS.out, ← hLL]; omega
      have hR2 : 0 ≤ R ∧ R ≤ 12 := by rw [hRR, HHS.out, ← hLL]; omega
      obtain ⟨hR2, hR3⟩ := hR2
      obtain ⟨G, hGG⟩ : ∃ G, G = l.gen := ⟨_, rfl⟩
      have HGE := Lib.hid hGG
      clear hL0 hsz hsm hLL hRR hGG
      go_wp2_with fail
      refine (lopen H7.out (by omega) HBL.out.size).mono ?_
      rintro e w8 ⟨P8, v8, ra8, rc8, rfl, j1, j2, _, j4, j5, j6, j7, j8⟩
      have HX8 := Lib.hid j1
      have HO8 := Lib.hid j2
      have HB8 := Lib.hid (HBL.out.trans (j8.below (fun k hp => (H7.out.wal.lt k (.inl hp)).1) HBL.out.size))
      have HRW := Lib.hid j6
      have HNR := Lib.hid j5
      clear j1 j2 j4 j5 j6 j7 j8
      rw [← HL.out]
      go_wp2_with fail
      refine (lopen HO8.out (by omega) HB8.out.size).mono ?_
      rintro e w9 ⟨P9, v9, ra9, rc9, rfl, j1, j2, j3, j4, j5, j6, j7, j8⟩
      have HY9 := Lib.hid j1
      have HO9 := Lib.hid j2
      have HX9 : Hid (LogP w9 w.heap.size P9 d f s fu v8 l (2 + 4 * k)) := Lib.hid ⟨⟨j2.wal.dsk, (j8.block v8 HX8.out.wal.log.lt HX8.out.wal.pv).trans HX8.out.wal.log, new_not j4 HX8.out.wal.pv HX8.out.wal.log.lt, HX8.out.wal.bv⟩, HX8.out.log, HX8.out.free, HX8.out.cnt⟩
      have HB9 := Lib.hid (HB8.out.trans (j8.below (fun k hp => (HO8.out.wal.lt k (.inl hp)).1) HB8.out.size))
      have HVQ := Lib.hid j3
      have HVP : Hid (Vals w9 (.slice ra8 l.list.length rc8) (strs l.list)) := Lib.hid (Vals.of_own (own_other HRW.out fun g hg => j8.block g (own_lt HRW.out hg) (HNR.out g hg)))
      clear j1 j2 j3 j4 j5 j6 j7 j8
      have HSM := Lib.hid (same_any l.list l.list _ _ w9 HVP.out HVQ.out (by rw [← HL.out]; omega))
      rw [same_self, ← HL.out] at HSM
      rw [← HL.out]
      go_wp2_with fail
      refine HSM.out.mono ?_
      rintro e w10 ⟨rfl, hb⟩
      have HB10 := Lib.hid (HB9.out.trans (hb.mono HB9.out.size))
      have HX10 := Lib.hid (HX9.out.under hb)
      have HY10 := Lib.hid (HY9.out.under hb)
      have HO10 := Lib.hid (HO9.out.under hb)
      clear hb
      go_wp2_with fail
      refine (lroom HX10.out).mono ?_
      rintro e w11 ⟨rfl, ha⟩
      rw [← HRE.out]
      have HB11 := Lib.hid (below_alike HB10.out ha)
      have HX11 := Lib.hid (HX10.out.alike ha)
      have HY11 := Lib.hid (HY10.out.alike ha)
      have HO11 := Lib.hid (HO10.out.alike ha)
      clear ha
      go_wp2_with fail
      refine (lroom HO11.out).mono ?_
      rintro e w12 ⟨rfl, ha⟩
      rw [← HRE.out]
      have HB12 := Lib.hid (below_alike HB11.out ha)
      have HX12 := Lib.hid (HX11.out.alike ha)
      have HY12 := Lib.hid (HY11.out.alike ha)
      have HO12 := Lib.hid (HO11.out.alike ha)
      clear ha
      go_wp2_with fail
      refine (gen_any HY12.out.wal).mono ?_
      rintro e w' ⟨rfl, rfl⟩
      rw [← HGE.out]
      go_wp2_with fail
      refine (gen_any HO12.out.wal).mono ?_
      rintro e w' ⟨rfl, rfl⟩
      rw [← HGE.out]
      go_wp2_with fail
      refine (gen_any HX12.out.wal).mono ?_
      rintro e w' ⟨rfl, rfl⟩
      rw [← HGE.out]
      go_wp2_with fail
      refine (gen_any HO12.out.wal).mono ?_
      rintro e w' ⟨rfl, rfl⟩
      rw [← HGE.out]
      go_wp2_with fail
      refine (HLEN.out _ _ _ HO12.out).mono ?_
      rintro e w' ⟨rfl, rfl⟩
      go_wp2_with fail
      refine (lroom HO12.out).mono ?_
      rintro e w13 ⟨rfl, ha⟩
      rw [← HRE.out]
      have HB13 := Lib.hid (below_alike HB12.out ha)
      clear ha
      go_wp2
      go_ret
      exact ⟨rfl, HB13.out⟩

theorem walk (a0 a1 : Int) (v : Value) (w : World) (hv : Acts w v) : Calls Try.prog 4 #[.agg #[.int .i64 a0, .int .i64 a1], v] w (Holds w) := by
  obtain ⟨xs, hx⟩ := hv.some
  have hx' := hx
  obtain ⟨A, c, rfl, _⟩ := hx'
  cases hg : greatB a1 xs with
  | true => exact walk_great a0 a1 A c xs w hx hg
  | false => exact walk_main a0 a1 A c xs w hx hg

/-! From the walk to the given row. -/
set_option maxRecDepth 100000 in
theorem lifted (os : Os) (started : os.Started) (H : Type) (enc : TypeId × Value → H) :
    ReturnsInHanded {} Try.checked os 4 .any (Rows.walOpensSpec.pre6 enc Try.prog Try.f4 Rows.walOpensRow.domain false) (Rows.walOpensSpec.post enc Try.prog Try.f4 false true false false) := by
  refine returnsInHanded_of_change (C := Try.checked) t_own started (by kernel_rfl) Try.func4
    (ChangeSpec.witness6 (enc := enc) (C := Try.checked) false ⟨#[], #[.agg #[.int .i64 0, .int .i64 0], .slice none 0 0], []⟩ 8 (by kernel_rfl) (by kernel_rfl) (by kernel_rfl) (by kernel_rfl)) ?_
  intro W base args ds gs before hval0 hW hcnd _
  have hval : ∀ (j : Nat) t v, Try.f4.params[j]? = some t → args[j]? = some v → Value.okWide Try.prog W .any base t v := hval0
  have hW' := hW
  obtain ⟨p, q, hA0, hV, rfl, hfz, hnd⟩ := hW
  have hA : DataW.TrodAll enc Try.prog W 0 (fun _ => true) true Try.f4.params.toList args.toList ds p := hA0
  rw [Try.params4] at hA hval
  obtain ⟨v0, vs0, d0, ds0, p0, q0, hargs, rfl, rfl, h0, r0⟩ := trodAll_cons hA
  obtain ⟨v1, vs1, d1, ds1, p1, q1, rfl, rfl, rfl, h1, r1⟩ := trodAll_cons r0
  obtain ⟨rfl, rfl, rfl⟩ := trodAll_nil r1
  obtain rfl : args = #[v0, v1] := by cases args; simp_all
  obtain ⟨a0, a1, rfl, _, _⟩ := open_two (hval 0 22 v0 rfl rfl) h0
  have hacts := open_acts (hval 1 23 v1 rfl rfl) h1
  refine (walk a0 a1 v1 W hacts).mono fun e W' ⟨he, hb⟩ => ?_
  subst he
  exact ⟨_, rfl, post_of_holds hW' (by kernel_rfl) rfl (by rw [Try.params4]; exact fun t ht => params_ok t (by simp at ht; rcases ht with rfl | rfl <;> simp)) ⟨rfl, rfl, rfl⟩ hb⟩

/-- The given statement. -/
theorem proved : Rows.WalOpensSaid :=
  OpenClaim.holds_of_wide 4 Try.f4 rfl rfl rfl rfl rfl rfl rfl ⟨rfl, rfl, rfl, rfl, rfl⟩ rfl rfl rfl rfl rfl (by kernel_rfl) Try.func4 (by kernel_rfl)
    (of_decide_eq_true (by kernel_rfl)) (by unfold Func.isWrapper; first | (rw [if_pos (by decide +kernel)]; kernel_rfl) | (rw [if_neg (by decide +kernel)]; exact ⟨rfl, rfl⟩))
    (fun os started H enc _ => lifted os started H enc)
#print axioms proved
end Go.Proofs.Ytooikkjgcpngdaa.walOpens

