/-
  switchback's DiskPlays: in every order of calls each sector has the bytes that the document says, whatever crashes, and whatever the fuse bears. For every input the call returns true, and each argument reads afterwards as it read before. No condition.
-/
import Derived.Test.YtffnalnceceinaaDiskPlaysWalk
namespace Go.Proofs.Ytffnalnceceinaa.diskPlays
open Go.ChangeShapes Go.WideShapes Go.ChangeAt Go.RowKit

set_option maxRecDepth 20000 in
set_option maxHeartbeats 4000000 in
theorem walk_none (a0 a1 : Int) (A : Option Addr) (cp : Nat) (w : World) (ha : a1 ≤ 40) : Calls Try.prog 3 #[.agg #[.int .i64 a0, .int .i64 a1], .slice A 0 cp] w (Holds w) := by
  have e2 : decide (40 < a1) = false := by simpa using ha
  obtain ⟨z, hz⟩ : ∃ z : Nat, (z : Int) = min (max a0 128) 1024 := ⟨(min (max a0 128) 1024).toNat, by omega⟩
  obtain ⟨n, hn⟩ : ∃ n : Nat, (n : Int) = min (max a1 4) 1024 := ⟨(min (max a1 4) 1024).toNat, by omega⟩
  have HZN := Lib.hid hz
  have HNN := Lib.hid hn
  clear hz hn
  go_enter Try.func3, Try.ntmps3
  obtain ⟨Z, hZ⟩ : ∃ Z, Z = w.heap.size := ⟨_, rfl⟩
  obtain ⟨wz, hwz⟩ : ∃ wz, wz = w.alloc (.cells #[.int .i64 a0, .int .i64 a1] 22) := ⟨_, rfl⟩
  have z0 : wz.cell? ⟨Z, 0, none⟩ = some (.int .i64 a0) := by rw [hwz, hZ]; simp
  have z1 : wz.cell? ⟨Z, 1, none⟩ = some (.int .i64 a1) := by rw [hwz, hZ]; simp
  have HBz : Hid (Below w.heap.size w wz) := by rw [hwz]; exact Lib.hid ((Below.refl _ _).alloc (Nat.le_refl _) _)
  have HSz : Hid (Z < wz.heap.size) := by rw [hwz, hZ]; exact Lib.hid (by simp)
  go_wp2_with fail
  rw [← hwz, ← hZ]
  have HZE := Lib.hid hZ
  clear hwz hZ
  refine (new_any _).mono ?_
  rintro e w1 ⟨f, rfl, hg, hz, hb⟩
  have HZ1 := Lib.hid hz
  have HGF := Lib.hid hg
  have HB1 := Lib.hid (HBz.out.trans (hb.mono HBz.out.size))
  have HS1 : Hid (Z < w1.heap.size) := Lib.hid (Nat.lt_of_lt_of_le HSz.out hb.size)
  have v0 := (hb.cell (p := ⟨Z, 0, none⟩) HSz.out).trans z0
  have v1 := (hb.cell (p := ⟨Z, 1, none⟩) HSz.out).trans z1
  clear hz hb hg z0 z1
  obtain ⟨g, hgg⟩ : ∃ g, g = w1.heap.size := ⟨_, rfl⟩
  obtain ⟨w1g, hw1g⟩ : ∃ x, x = w1.alloc (.cells #[.bool false, .int .i64 0, .bool false, .int .i64 0] 28) := ⟨_, rfl⟩
  have HZg : Hid (Fz w1g f 59 ⟨false, 0, false, 0⟩) := by rw [hw1g]; exact Lib.hid ((Below.heap_alloc w1 _ f HZ1.out.lt).trans HZ1.out)
  have HGg : Hid (FzR w1g g ⟨false, 0, false, 0⟩) := by rw [hw1g, hgg]; exact Lib.hid ⟨0, Fz.new w1 28 false 0 false 0, fun h => by cases h⟩
  have HFG : Hid (f < g) := Lib.hid (by rw [hgg]; exact HZ1.out.lt)
  have HB1g : Hid (Below w.heap.size w w1g) := by rw [hw1g]; exact Lib.hid (HB1.out.alloc HB1.out.size _)
  have HS1g : Hid (Z < w1g.heap.size) := by rw [hw1g]; exact Lib.hid (by have := HS1.out; simp; omega)
  have u0 : w1g.cell? ⟨Z, 0, none⟩ = some (.int .i64 a0) := by rw [hw1g, World.cell?_alloc_lt _ _ _ HS1.out]; exact v0
  have u1 : w1g.cell? ⟨Z, 1, none⟩ = some (.int .i64 a1) := by rw [hw1g, World.cell?_alloc_lt _ _ _ HS1.out]; exact v1
  clear v0 v1
  go_wp2_with fail
  rw [← hw1g, ← hgg]
  clear hw1g hgg HZ1 HB1 HS1
  refine (awake_yes _).mono ?_
  rintro e w2 ⟨rfl, hb⟩
  have HF2 := Lib.hid (Fz.past HZg.out hb)
  have HG2 := Lib.hid (HGg.out.block (hb.block g HGg.out.lt))
  have HB2 := Lib.hid (HB1g.out.trans (hb.mono HB1g.out.size))
  have HS2 : Hid (Z < w2.heap.size) := Lib.hid (Nat.lt_of_lt_of_le HS1g.out hb.size)
  have q0 := (hb.cell (p := ⟨Z, 0, none⟩) HS1g.out).trans u0
  have q1 := (hb.cell (p := ⟨Z, 1, none⟩) HS1g.out).trans u1
  have HZw : Hid (w.heap.size ≤ Z) := Lib.hid (Nat.le_of_eq HZE.out.symm)
  have HFZ : Hid (Z < f) := Lib.hid (by rw [← HGF.out]; exact HSz.out)
  clear hb u0 u1 HZg HGg HB1g HS1g
  go_wp2
  go_region_held3 (fun wx => wx.cell? ⟨Z, 0, none⟩ = some (.int .i64 a0) ∧ wx.cell? ⟨Z, 1, none⟩ = some (.int .i64 a1)) (first | exact ⟨r0, r1⟩ | exact ⟨p0, p1⟩ | exact ⟨q0, q1⟩) (first | (go_at_call 10; refine (new_D (B := w.heap.size) (f := f) a0 a1 z n HZN.out HNN.out ?_ new_good (Nat.le_trans HZw.out (Nat.le_of_lt HFZ.out)) ?_).mono ?_; (exact HF2.out); (exact HB2.out.size); rintro e w3 ⟨d, P3, rfl, hd3, hb3d, hp3⟩; have hb3 := under_drew hb3d; clear hb3d; have p0 := (hb3.cell (p := ⟨Z, 0, none⟩) HS2.out).trans q0; have p1 := (hb3.cell (p := ⟨Z, 1, none⟩) HS2.out).trans q1; have HS3 : Hid (Z < w3.heap.size) := Lib.hid (Nat.lt_of_lt_of_le HS2.out hb3.size); have HG3 := Lib.hid (HG2.out.block (hb3.block g HG2.out.lt)); have HB3 := Lib.hid (HB2.out.trans (hb3.mono HB2.out.size))) | (go_at_call 11; refine (mnew_D (B := w.heap.size) (g := g) a0 a1 z n HZN.out HNN.out HG3.out new_good (Nat.le_trans HZw.out (Nat.le_of_lt (Nat.lt_trans HFZ.out HFG.out))) HB3.out.size).mono ?_; rintro e w4 ⟨m, R4, rfl, hd4, hb4, hp4⟩; have r0 := (hb4.cell (p := ⟨Z, 0, none⟩) HS3.out).trans p0; have r1 := (hb4.cell (p := ⟨Z, 1, none⟩) HS3.out).trans p1))
  have HD4 := Lib.hid (hd3.under hb4)
  have HM4 := Lib.hid hd4
  have HP4 : Hid (∀ k, P3 k → ¬ R4 k) := Lib.hid (fun k h1 h2 => by
    have a1 := hp3 k h1
    have a2 := hp4 k h2
    have a3 := (hd3.lt k h1).2
    have a4 := HG2.out.lt
    have a5 := HFG.out
    have a6 : w2.heap.size ≤ w3.heap.size := hb3.size
    have a7 : w2.drew.heap.size = w2.heap.size := rfl
    omega)
  have HB4 := Lib.hid (HB3.out.trans (hb4.mono HB3.out.size))
  clear hd3 hd4 hb3 hb4 hp3 hp4 p0 p1 q0 q1 r0 r1 HF2 HG2 HS2 HS3 HG3 HB2 HB3
  have c0 := HM4.out.c0
  obtain ⟨na, nc, c2⟩ := HM4.out.c2
  go_wp2
  go_quiet (first | (go_at_call 12; exact size_q HD4.out _) | (go_at_call 13; exact len_q HD4.out _))
  obtain ⟨w5, hw5⟩ : ∃ W, W = w4.drewN nq := ⟨_, rfl⟩
  rw [← hw5]
  have HR : Hid (Loop w w5 d f m g 0) := by
    rw [hw5]
    exact Lib.hid ⟨P3, R4, _, _, HD4.out.drewN nq, HM4.out.drewN nq, HP4.out, Nat.zero_le _, by decide, below_drewN HB4.out nq⟩
  clear hw5 c0 c2 HD4 HM4 HP4 HB4
  go_wp2
  refine wp_loop_rounds 1 ?_
  rw [rounds_succ]
  go_wp2
  go_ret
  obtain ⟨P, R, s, fu, hd, hm, hpr, hop, hcn, hbl⟩ := HR.out
  exact ⟨rfl, hbl⟩

set_option maxRecDepth 20000 in
set_option maxHeartbeats 1000000 in
theorem walk_out (a0 a1 : Int) (k c : Nat) (A : Option Addr) (w : World) (hk : k ≤ maxLen) (h : 100 < k ∨ 40 < a1) : Calls Try.prog 3 #[.agg #[.int .i64 a0, .int .i64 a1], .slice A k c] w (Holds w) := by
  unfold maxLen at hk
  go_enter Try.func3, Try.ntmps3
  obtain ⟨Z, hZ⟩ : ∃ Z, Z = w.heap.size := ⟨_, rfl⟩
  obtain ⟨wz, hwz⟩ : ∃ wz, wz = w.alloc (.cells #[.int .i64 a0, .int .i64 a1] 22) := ⟨_, rfl⟩
  have z0 : wz.cell? ⟨Z, 0, none⟩ = some (.int .i64 a0) := by rw [hwz, hZ]; simp
  have z1 : wz.cell? ⟨Z, 1, none⟩ = some (.int .i64 a1) := by rw [hwz, hZ]; simp
  have HBz : Hid (Below w.heap.size w wz) := by rw [hwz]; exact Lib.hid ((Below.refl _ _).alloc (Nat.le_refl _) _)
  have HSz : Hid (Z < wz.heap.size) := by rw [hwz, hZ]; exact Lib.hid (by simp)
  go_wp2_with fail
  rw [← hwz, ← hZ]
  have HZE := Lib.hid hZ
  clear hwz hZ
  refine (new_any _).mono ?_
  rintro e w1 ⟨f, rfl, hg, hz, hb⟩
  have HZ1 := Lib.hid hz
  have HGF := Lib.hid hg
  have HB1 := Lib.hid (HBz.out.trans (hb.mono HBz.out.size))
  have HS1 : Hid (Z < w1.heap.size) := Lib.hid (Nat.lt_of_lt_of_le HSz.out hb.size)
  have v0 := (hb.cell (p := ⟨Z, 0, none⟩) HSz.out).trans z0
  have v1 := (hb.cell (p := ⟨Z, 1, none⟩) HSz.out).trans z1
  clear hz hb hg z0 z1
  obtain ⟨g, hgg⟩ : ∃ g, g = w1.heap.size := ⟨_, rfl⟩
  obtain ⟨w1g, hw1g⟩ : ∃ x, x = w1.alloc (.cells #[.bool false, .int .i64 0, .bool false, .int .i64 0] 28) := ⟨_, rfl⟩
  have HZg : Hid (Fz w1g f 59 ⟨false, 0, false, 0⟩) := by rw [hw1g]; exact Lib.hid ((Below.heap_alloc w1 _ f HZ1.out.lt).trans HZ1.out)
  have HGg : Hid (FzR w1g g ⟨false, 0, false, 0⟩) := by rw [hw1g, hgg]; exact Lib.hid ⟨0, Fz.new w1 28 false 0 false 0, fun h => by cases h⟩
  have HFG : Hid (f < g) := Lib.hid (by rw [hgg]; exact HZ1.out.lt)
  have HB1g : Hid (Below w.heap.size w w1g) := by rw [hw1g]; exact Lib.hid (HB1.out.alloc HB1.out.size _)
  have HS1g : Hid (Z < w1g.heap.size) := by rw [hw1g]; exact Lib.hid (by have := HS1.out; simp; omega)
  have u0 : w1g.cell? ⟨Z, 0, none⟩ = some (.int .i64 a0) := by rw [hw1g, World.cell?_alloc_lt _ _ _ HS1.out]; exact v0
  have u1 : w1g.cell? ⟨Z, 1, none⟩ = some (.int .i64 a1) := by rw [hw1g, World.cell?_alloc_lt _ _ _ HS1.out]; exact v1
  clear v0 v1
  go_wp2_with fail
  rw [← hw1g, ← hgg]
  clear hw1g hgg HZ1 HB1 HS1
  refine (awake_yes _).mono ?_
  rintro e w2 ⟨rfl, hb⟩
  have HF2 := Lib.hid (Fz.past HZg.out hb)
  have HG2 := Lib.hid (HGg.out.block (hb.block g HGg.out.lt))
  have HB2 := Lib.hid (HB1g.out.trans (hb.mono HB1g.out.size))
  have HS2 : Hid (Z < w2.heap.size) := Lib.hid (Nat.lt_of_lt_of_le HS1g.out hb.size)
  have q0 := (hb.cell (p := ⟨Z, 0, none⟩) HS1g.out).trans u0
  have q1 := (hb.cell (p := ⟨Z, 1, none⟩) HS1g.out).trans u1
  have HZw : Hid (w.heap.size ≤ Z) := Lib.hid (Nat.le_of_eq HZE.out.symm)
  have HFZ : Hid (Z < f) := Lib.hid (by rw [← HGF.out]; exact HSz.out)
  clear hb u0 u1 HZg HGg HB1g HS1g
  by_cases h1 : 100 < k
  · have e1 : decide (100 < (k : Int)) = true := by simp; omega
    clear h
    go_wp2_with fail
    refine (awake_yes _).mono ?_
    rintro e w3 ⟨rfl, hb3⟩
    go_wp2
    go_ret
    exact ⟨rfl, HB2.out.trans (hb3.mono HB2.out.size)⟩
  · have e1 : decide (100 < (k : Int)) = false := by simp; omega
    have e2 : decide (40 < a1) = true := by simp; omega
    clear h
    go_wp2_with fail
    refine (awake_yes _).mono ?_
    rintro e w3 ⟨rfl, hb3⟩
    go_wp2
    go_ret
    exact ⟨rfl, HB2.out.trans (hb3.mono HB2.out.size)⟩

theorem arr22 : Go.WideMaps.ArrKey Try.prog 22 3 2 := ⟨Try.underlying22, by kernel_rfl, by kernel_rfl, by kernel_rfl⟩
theorem open_sizes {H : Type} {enc : TypeId × Value → H} {W : World} {base : Nat} {v : Value} {d : DataW H} {ps : List MemPlace} (hok : Value.okWide Try.prog W .any base 22 v) (h : DataW.Trod enc Try.prog W 0 (fun _ => true) true 22 v d ps) : ∃ a b : Int, v = .agg #[.int .i64 a, .int .i64 b] := by
  obtain ⟨xs, rfl, hx⟩ := Go.WideMaps.okWide_arr arr22 hok
  obtain ⟨fuel, hf⟩ := h
  obtain ⟨ys, n, _, _, hl, hyl, hi⟩ := DataW.trod_array Try.underlying22 hf
  match xs, hx with
  | ⟨[x0, x1]⟩, _ =>
    match ys, hyl with
    | [y0, y1], _ =>
      have g0 := hi 0 (by omega)
      have g1 := hi 1 (by omega)
      simp [t_cells3, Value.cells] at g0 g1
      obtain ⟨a, f0, _, _⟩ := DataW.trod_int Try.underlying3 g0
      obtain ⟨b, f1, _, _⟩ := DataW.trod_int Try.underlying3 g1
      simp at f0 f1
      subst f0 f1
      exact ⟨a, b, rfl⟩

theorem walk (u v : Value) (w : World) (hu : ∃ a b : Int, u = .agg #[.int .i64 a, .int .i64 b]) (h : Acts w v) : Calls Try.prog 3 #[u, v] w (Holds w) := by
  obtain ⟨a0, a1, rfl⟩ := hu
  rcases h with ⟨A, cp, rfl⟩ | ⟨b, off, cp, xs, rfl, hx, h0, hb, hv⟩
  · by_cases h1 : 40 < a1
    · exact walk_out a0 a1 0 cp A w (by unfold maxLen; omega) (.inr h1)
    · exact walk_none a0 a1 A cp w (by omega)
  · by_cases h1 : 100 < xs.length ∨ 40 < a1
    · exact walk_out a0 a1 xs.length cp _ w hx h1
    · exact walk_main a0 a1 b off cp xs w (by omega) h0 hb (by omega) hv

/-! From the walk to the given row. -/
set_option maxRecDepth 100000 in
theorem lifted (os : Os) (started : os.Started) (H : Type) (enc : TypeId × Value → H) :
    ReturnsInHanded {} Try.checked os 3 .any (Rows.diskPlaysSpec.pre6 enc Try.prog Try.f3 Rows.diskPlaysRow.domain false) (Rows.diskPlaysSpec.post enc Try.prog Try.f3 false true false false) := by
  refine returnsInHanded_of_change (C := Try.checked) t_own started (by kernel_rfl) Try.func3
    (ChangeSpec.witness6 (enc := enc) (C := Try.checked) false ⟨#[], #[.agg #[.int .i64 0, .int .i64 0], .slice none 0 0], []⟩ 8 (by kernel_rfl) (by kernel_rfl) (by kernel_rfl) (by kernel_rfl)) ?_
  intro W base args ds gs before hval0 hW hcnd _
  have hval : ∀ (j : Nat) t v, Try.f3.params[j]? = some t → args[j]? = some v → Value.okWide Try.prog W .any base t v := hval0
  have hW' := hW
  obtain ⟨p, q, hA0, hV, rfl, hfz, hnd⟩ := hW
  have hA : DataW.TrodAll enc Try.prog W 0 (fun _ => true) true Try.f3.params.toList args.toList ds p := hA0
  rw [Try.params3] at hA hval
  obtain ⟨v0, vs0, d0, ds0, p0, q0, hargs, rfl, rfl, h0, r0⟩ := trodAll_cons hA
  obtain ⟨v1, vs1, d1, ds1, p1, q1, rfl, rfl, rfl, h1, r1⟩ := trodAll_cons r0
  obtain ⟨rfl, rfl, rfl⟩ := trodAll_nil r1
  obtain rfl : args = #[v0, v1] := by cases args; simp_all

  refine (walk v0 v1 W (open_sizes (hval 0 22 v0 rfl rfl) h0) (open_acts (hval 1 23 v1 rfl rfl) h1)).mono fun e W' ⟨he, hb⟩ => ?_
  subst he
  exact ⟨_, rfl, post_of_holds hW' (by kernel_rfl) rfl (by rw [Try.params3]; exact fun t ht => params_ok t (by simp at ht; rcases ht with rfl | rfl <;> simp)) ⟨rfl, rfl, rfl⟩ hb⟩

/-- The given statement. -/
theorem proved : Rows.DiskPlaysSaid :=
  OpenClaim.holds_of_wide 3 Try.f3 rfl rfl rfl rfl rfl rfl rfl ⟨rfl, rfl, rfl, rfl, rfl⟩ rfl rfl rfl rfl rfl (by kernel_rfl) Try.func3 (by kernel_rfl)
    (of_decide_eq_true (by kernel_rfl)) (by unfold Func.isWrapper; first | (rw [if_pos (by decide +kernel)]; kernel_rfl) | (rw [if_neg (by decide +kernel)]; exact ⟨rfl, rfl⟩))
    (fun os started H enc _ => lifted os started H enc)
#print axioms proved
end Go.Proofs.Ytffnalnceceinaa.diskPlays
