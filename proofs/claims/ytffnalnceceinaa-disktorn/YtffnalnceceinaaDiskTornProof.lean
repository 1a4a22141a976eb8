/-
  switchback's DiskTorn: of a write that was torn the sector has its first bytes, and the others of what lasted ahead of it. For every input the call returns true, and each argument reads afterwards as it read before. No condition.
-/
import Derived.Test.YtffnalnceceinaaLift
namespace Go.Proofs.Ytffnalnceceinaa.diskTorn
open Go.ChangeShapes Go.WideShapes Go.ChangeAt Go.RowKit

theorem torn_state (x y z : ByteArray) (t : Nat) (hz : same 0 128 = z) : ∀ s : Dk, s = (((((fresh 128 4).write 2 x).flush).write 2 y).crash 1 t) → rstr s 2 = torn t y x ∧ rcode s 2 = 0 := by
  rintro s rfl
  have e2 : lastK 1 1 = 0 := by decide
  have e3 : bit 1 0 = true := by decide
  have e : (((((fresh 128 4).write 2 x).flush).write 2 y).crash 1 t).now = [z, z, torn t y x, z] := by
    simp [Dk.crash, Dk.crashed, Dk.write, Dk.flush, fresh, crashTo, step, e2, hz, List.replicate]
  unfold rstr rcode
  rw [e]
  exact ⟨rfl, rfl⟩

set_option maxHeartbeats 2000000 in
theorem walk (a b : UInt8) (tn : Int) (w : World) : Calls Try.prog 7 #[.int .u8 (a.toNat : Int), .int .u8 (b.toNat : Int), .int .i64 tn] w (Holds w) := by
  obtain ⟨t, ht⟩ : ∃ t, t = cut tn 128 := ⟨_, rfl⟩
  have hts : t ≤ 128 := by rw [ht]; exact cut_le _ _
  have HT : Hid (t = cut tn 128) := Lib.hid ht
  have HTI : Hid ((t : Int) = min (max tn 0) 128) := Lib.hid (by rw [ht]; exact cut_int _ _)
  clear ht
  go_enter Try.func7, Try.ntmps7
  go_wp2_with fail
  refine (new_any _).mono ?_
  rintro e w1 ⟨f, rfl, hg, hz, hb⟩
  have HB1 := Lib.hid hb
  have HZ1 := Lib.hid hz
  have HG := Lib.hid hg
  clear hz hb hg
  go_wp2_with fail
  refine (awake_yes _).mono ?_
  rintro e w2 ⟨rfl, hb⟩
  have HZ2 := Lib.hid (HZ1.out.under hb HZ1.out.lt)
  have HB2 := Lib.hid (HB1.out.trans (hb.mono HB1.out.size))
  clear hb HZ1
  go_wp2_with fail
  refine (new_D (B := w.heap.size) 128 4 128 4 (by decide) (by decide) HZ2.out new_good (Nat.le_of_eq HG.out) HB2.out.size).mono ?_
  rintro e w3 ⟨d, P3, rfl, hd, hb, hp⟩
  have HD3 := Lib.hid hd
  have HB3 := Lib.hid (HB2.out.trans (hb.mono HB2.out.size))
  clear hd hb hp HZ2
  go_wp2_with fail
  refine (fill_any a 128 _ (by decide)).mono ?_
  rintro e w4 ⟨rfl, hb⟩
  have HD4 := Lib.hid (HD3.out.under hb)
  have HB4 := Lib.hid (HB3.out.trans (hb.mono HB3.out.size))
  clear hb HD3
  obtain ⟨x, hx⟩ : ∃ x, x = same a 128 := ⟨_, rfl⟩
  rw [← hx]
  have HX := Lib.hid hx
  have HSX : Hid (x.size = 128) := Lib.hid (by rw [hx]; exact same_size _ _)
  clear hx
  go_wp2_with fail
  refine (write_in 2 x HD4.out (by decide) HSX.out rfl (by decide) (by decide) HB4.out.size).mono ?_
  rintro e w5 ⟨rfl, P5, hd, hk, hp⟩
  have HD5 := Lib.hid hd
  have HB5 := Lib.hid (HB4.out.trans (hk.below (fun k hk => (HD4.out.lt k hk).1) HB4.out.size))
  clear hd hk hp HD4
  go_wp2_with fail
  refine (flush_D HD5.out (by show (1 : Int) < 1000000; decide) (by show 1 < 1000000; decide)).mono ?_
  rintro e w6 ⟨rfl, hd, hk⟩
  have HD6 := Lib.hid (show Dsk w6 w.heap.size P5 d f ((fresh 128 4).write 2 x).flush ⟨false, 0, false, 2⟩ from hd)
  have HB6 := Lib.hid (HB5.out.trans (hk.below (fun k hk => (HD5.out.lt k hk).1) HB5.out.size))
  clear hd hk HD5
  go_wp2_with fail
  refine (fill_any b 128 _ (by decide)).mono ?_
  rintro e w7 ⟨rfl, hb⟩
  have HD7 := Lib.hid (HD6.out.under hb)
  have HB7 := Lib.hid (HB6.out.trans (hb.mono HB6.out.size))
  clear hb HD6
  obtain ⟨y, hy⟩ : ∃ y, y = same b 128 := ⟨_, rfl⟩
  rw [← hy]
  have HY := Lib.hid hy
  have HSY : Hid (y.size = 128) := Lib.hid (by rw [hy]; exact same_size _ _)
  clear hy
  go_wp2_with fail
  refine (write_in 2 y HD7.out (by show 2 < 4; decide) HSY.out rfl (by decide) (by show 0 < 1000000; decide) HB7.out.size).mono ?_
  rintro e w8 ⟨rfl, P8, hd, hk, hp⟩
  have HD8 := Lib.hid hd
  have HB8 := Lib.hid (HB7.out.trans (hk.below (fun k hk => (HD7.out.lt k hk).1) HB7.out.size))
  clear hd hk hp HD7
  go_wp2_with fail
  refine (crash_D 1 tn (by decide) HD8.out (by show 1 < 1000000; decide)).mono ?_
  rintro e w9 ⟨rfl, hd, hk⟩
  obtain ⟨s9, hs9⟩ : ∃ s, s = (((((fresh 128 4).write 2 x).flush).write 2 y).crash 1 t) := ⟨_, rfl⟩
  obtain ⟨fu9, hfu9⟩ : ∃ fu, fu = Fu.reset (Fu.spent ⟨false, 0, false, 2⟩) := ⟨_, rfl⟩
  have HD9 : Hid (Dsk w9 w.heap.size P8 d f s9 fu9) := Lib.hid (by rw [hs9, hfu9, HT.out]; exact hd)
  have HB9 := Lib.hid (HB8.out.trans (hk.below (fun k hk => (HD8.out.lt k hk).1) HB8.out.size))
  have hr := torn_state x y _ t rfl s9 hs9
  rw [HX.out, HY.out, torn_same _ _ _ _ hts] at hr
  have HR := Lib.hid hr
  clear hd hk hr hs9 hfu9 HD8
  go_wp2_with fail
  refine (read_D 2 HD9.out).mono ?_
  rintro e w' ⟨rfl, rfl⟩
  rw [HR.out.1, HR.out.2, ← HTI.out]
  obtain ⟨u, hu⟩ : ∃ u, u = same b t := ⟨_, rfl⟩
  obtain ⟨v, hv⟩ : ∃ v, v = same a (128 - t) := ⟨_, rfl⟩
  have hus : u.size ≤ 128 := by rw [hu, same_size]; exact hts
  have hvs : v.size ≤ 128 := by rw [hv, same_size]; omega
  rw [← hu, ← hv]
  have HU := Lib.hid hu
  have HV := Lib.hid hv
  clear hu hv
  go_wp2_with fail
  refine (fill_any b t _ (by omega)).mono ?_
  rintro e w10 ⟨rfl, hb⟩
  rw [← HU.out]
  have HB10 := Lib.hid (HB9.out.trans (hb.mono HB9.out.size))
  clear hb
  go_wp2_with fail
  refine (fill_int a _ (128 - t) _ (by omega)).mono ?_
  rintro e w11 ⟨rfl, hb⟩
  rw [← HV.out]
  have HB11 := Lib.hid (HB10.out.trans (hb.mono HB10.out.size))
  clear hb
  go_wp2
  go_ret
  exact ⟨rfl, HB11.out⟩

/-! From the walk to the given row. -/
set_option maxRecDepth 100000 in
theorem lifted (os : Os) (started : os.Started) (H : Type) (enc : TypeId × Value → H) :
    ReturnsInHanded {} Try.checked os 7 .any (Rows.diskTornSpec.pre6 enc Try.prog Try.f7 Rows.diskTornRow.domain false) (Rows.diskTornSpec.post enc Try.prog Try.f7 false true false false) := by
  refine returnsInHanded_of_change (C := Try.checked) t_own started (by kernel_rfl) Try.func7
    (ChangeSpec.witness6 (enc := enc) (C := Try.checked) false ⟨#[], #[.int .u8 0, .int .u8 0, .int .i64 0], []⟩ 8 (by kernel_rfl) (by kernel_rfl) (by kernel_rfl) (by kernel_rfl)) ?_
  intro W base args ds gs before hval0 hW hcnd _
  have hval : ∀ (j : Nat) t v, Try.f7.params[j]? = some t → args[j]? = some v → Value.okWide Try.prog W .any base t v := hval0
  have hW' := hW
  obtain ⟨p, q, hA0, hV, rfl, hfz, hnd⟩ := hW
  have hA : DataW.TrodAll enc Try.prog W 0 (fun _ => true) true Try.f7.params.toList args.toList ds p := hA0
  rw [Try.params7] at hA hval
  obtain ⟨v0, vs0, d0, ds0, p0, q0, hargs, rfl, rfl, h0, r0⟩ := trodAll_cons hA
  obtain ⟨v1, vs1, d1, ds1, p1, q1, rfl, rfl, rfl, h1, r1⟩ := trodAll_cons r0
  obtain ⟨v2, vs2, d2, ds2, p2, q2, rfl, rfl, rfl, h2, r2⟩ := trodAll_cons r1
  obtain ⟨rfl, rfl, rfl⟩ := trodAll_nil r2
  obtain rfl : args = #[v0, v1, v2] := by cases args; simp_all
  obtain ⟨a0, rfl, rfl, rfl, w0⟩ := open_int Try.underlying5 (hval 0 5 v0 rfl rfl) h0
  obtain ⟨a1, rfl, rfl, rfl, w1⟩ := open_int Try.underlying5 (hval 1 5 v1 rfl rfl) h1
  obtain ⟨a2, rfl, rfl, rfl, w2⟩ := open_int Try.underlying3 (hval 2 3 v2 rfl rfl) h2
  obtain ⟨x, rfl⟩ := u8_is w0
  obtain ⟨y, rfl⟩ := u8_is w1
  refine (walk x y a2 W).mono fun e W' ⟨he, hb⟩ => ?_
  subst he
  exact ⟨_, rfl, post_of_holds hW' (by kernel_rfl) rfl (by rw [Try.params7]; exact fun t ht => params_ok t (by simp at ht; rcases ht with rfl | rfl <;> simp)) ⟨rfl, rfl, rfl⟩ hb⟩

/-- The given statement. -/
theorem proved : Rows.DiskTornSaid :=
  OpenClaim.holds_of_wide 7 Try.f7 rfl rfl rfl rfl rfl rfl rfl ⟨rfl, rfl, rfl, rfl, rfl⟩ rfl rfl rfl rfl rfl (by kernel_rfl) Try.func7 (by kernel_rfl)
    (of_decide_eq_true (by kernel_rfl)) (by unfold Func.isWrapper; first | (rw [if_pos (by decide +kernel)]; kernel_rfl) | (rw [if_neg (by decide +kernel)]; exact ⟨rfl, rfl⟩))
    (fun os started H enc _ => lifted os started H enc)
#print axioms proved
end Go.Proofs.Ytffnalnceceinaa.diskTorn
