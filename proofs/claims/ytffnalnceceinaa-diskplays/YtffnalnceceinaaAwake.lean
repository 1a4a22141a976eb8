/-
  The answers that the document fixes: awake.
-/
import Derived.Test.YtffnalnceceinaaDiskE
namespace Go.Proofs.Ytffnalnceceinaa
open Go.RowKit

theorem torn_same (a b : UInt8) (n t : Nat) (h : t ≤ n) : torn t (same b n) (same a n) = same b t ++ same a (n - t) := by
  have key : ∀ x y : ByteArray, x.data.toList = y.data.toList → x = y := fun x y h => by
    cases x; cases y
    congr 1
    exact Array.toList_inj.1 h
  apply key
  rw [torn, ByteArray.data_append, ByteArray.data_append]
  simp [same, ByteArray.data_extract, ByteArray.size]
  omega

/-- What is read behind the crash that awake asks for. -/
theorem awake_state (a b z : ByteArray) : ∀ s : Dk, s = ((fresh 128 4).write 0 a).write 1 b → same 0 128 = z → s.opn.length = 2 ∧ (s.crash 2 (cut 3 128)).now = [z, torn 3 b z, z, z] := by
  rintro s rfl hz
  refine ⟨rfl, ?_⟩
  have e1 : cut 3 128 = 3 := by decide
  have e2 : lastK 2 2 = 1 := by decide
  have e3 : bit 2 0 = false := by decide
  simp [Dk.crash, Dk.crashed, Dk.write, fresh, crashTo, step, e1, e2, e3, hz, List.replicate]

theorem new_good : (⟨false, 0, false, 0⟩ : Fu).Good := ⟨fun h => (by cases h), fun h => (by cases h), by decide⟩
theorem free_ok (l : Int) (b : Bool) (c : Int) : (⟨false, l, b, c⟩ : Fu).ok = true := rfl
theorem free_spent (l : Int) (b : Bool) (c : Int) : (⟨false, l, b, c⟩ : Fu).spent = ⟨false, l, b, c + 1⟩ := rfl

/-- A write that is in range and borne. -/
theorem write_in {P : Nat → Prop} {w : World} {B d f : Nat} {s : Dk} {fu : Fu} (i : Nat) (b : ByteArray) (h : Dsk w B P d f s fu) (hi : i < s.now.length) (hb : b.size = s.size) (ho : fu.ok = true) (hc : fu.count < 1000000) (hl : s.opn.length < 1000000) (hBw : B ≤ w.heap.size) :
    Calls Try.prog 14 #[.pointer (some ⟨d, 0, none⟩), .int .i64 (i : Int), .string b] w fun e w' => e = .returned (.int .i64 0) ∧ ∃ P', Dsk w' B P' d f (s.write i b) fu.spent ∧ Kept P w w' ∧ (∀ k, P' k → P k ∨ w.heap.size ≤ k) := by
  have h1 := write_D (i : Int) b h hc hl hBw
  have hb := good_in hi hb
  have e1 : wcode s fu i b = 0 := by simp [wcode, hb, ho]
  have e2 : wstate s fu i b = s.write i b := by simp [wstate, hb, ho]
  have e3 : wfuse s fu i b = fu.spent := by simp [wfuse, hb]
  rw [e1, e2, e3] at h1
  exact h1

set_option maxHeartbeats 2000000 in
theorem awake_yes (w : World) : Calls Try.prog 9 #[] w fun e w' => e = .returned (.bool true) ∧ Below w.heap.size w w' := by
  go_enter Try.func9, Try.ntmps9
  go_wp2_with fail
  refine (new_any _).mono ?_
  rintro e w1 ⟨f, rfl, hg, hz, hb⟩
  have HB1 := Lib.hid hb
  have HZ1 := Lib.hid hz
  have HG := Lib.hid hg
  clear hz hb hg
  go_wp2_with fail
  refine (new_D (B := w.heap.size) 128 4 128 4 (by decide) (by decide) HZ1.out new_good (Nat.le_of_eq HG.out) HB1.out.size).mono ?_
  rintro e w2 ⟨d, P2, rfl, hd, hb, hp⟩
  have HD2 := Lib.hid hd
  have HB2 := Lib.hid (HB1.out.trans (hb.mono HB1.out.size))
  clear hd hb hp HZ1
  go_wp2_with fail
  refine (repeat_any 97 128 _ (by omega)).mono ?_
  rintro e w3 ⟨rfl, hb⟩
  have HD3 := Lib.hid (HD2.out.under hb)
  have HB3 := Lib.hid (HB2.out.trans (hb.mono HB2.out.size))
  clear hb HD2
  go_wp2_with fail
  refine (repeat_any 98 128 _ (by omega)).mono ?_
  rintro e w4 ⟨rfl, hb⟩
  have HD4 := Lib.hid (HD3.out.under hb)
  have HB4 := Lib.hid (HB3.out.trans (hb.mono HB3.out.size))
  clear hb HD3
  obtain ⟨a, ha⟩ : ∃ a, a = same 97 128 := ⟨_, rfl⟩
  obtain ⟨b, hb⟩ : ∃ b, b = same 98 128 := ⟨_, rfl⟩
  rw [← ha, ← hb]
  have hsa : a.size = 128 := by rw [ha]; exact same_size _ _
  have hsb : b.size = 128 := by rw [hb]; exact same_size _ _
  have HA := Lib.hid ha
  have HBq := Lib.hid hb
  have HSA := Lib.hid hsa
  have HSB := Lib.hid hsb
  clear ha hb hsa hsb
  go_wp2_with fail
  refine (write_in 0 a HD4.out (by decide) HSA.out rfl (by decide) (by decide) HB4.out.size).mono ?_
  rintro e w5 ⟨rfl, P5, hd, hk, hp⟩
  have HD5 := Lib.hid hd
  have HB5 := Lib.hid (HB4.out.trans (hk.below (fun k hk => (HD4.out.lt k hk).1) HB4.out.size))
  clear hd hk hp HD4
  go_wp2_with fail
  refine (write_in 1 b HD5.out (by show 1 < 4; decide) HSB.out rfl (by show (1 : Int) < 1000000; decide) (by show 1 < 1000000; decide) HB5.out.size).mono ?_
  rintro e w6 ⟨rfl, P6, hd, hk, hp⟩
  obtain ⟨s6, hs6⟩ : ∃ s, s = ((fresh 128 4).write 0 a).write 1 b := ⟨_, rfl⟩
  obtain ⟨z, hz⟩ : ∃ z, same 0 128 = z := ⟨_, rfl⟩
  obtain ⟨h2, hnow⟩ := awake_state a b z s6 hs6 hz
  rw [← hs6] at hd
  have hsz : s6.size = 128 := by rw [hs6]; rfl
  have HD6 := Lib.hid hd
  have HB6 := Lib.hid (HB5.out.trans (hk.below (fun k hk => (HD5.out.lt k hk).1) HB5.out.size))
  have H2 := Lib.hid h2
  have HNOW := Lib.hid hnow
  have HSZ := Lib.hid hsz
  have HZ := Lib.hid hz
  clear hd hk hp HD5 h2 hnow hsz hz hs6
  go_wp2_with fail
  refine (open_D HD6.out).mono ?_
  rintro e w' ⟨rfl, rfl⟩
  rw [H2.out]
  go_wp2_with fail
  refine (crash_D 2 3 (by decide) HD6.out (by rw [H2.out]; decide)).mono ?_
  rintro e w7 ⟨rfl, hd, hk⟩
  rw [HSZ.out] at hd
  obtain ⟨s7, hs7⟩ : ∃ s, s = s6.crash 2 (cut 3 128) := ⟨_, rfl⟩
  rw [← hs7] at hd
  have HD7 := Lib.hid hd
  have HN7 : Hid (s7.now = [z, torn 3 b z, z, z]) := Lib.hid (by rw [hs7]; exact HNOW.out)
  have HO7 : Hid (s7.opn.length = 0) := Lib.hid (by rw [hs7]; rfl)
  have HS7 : Hid (s7.size = 128) := Lib.hid (by rw [hs7]; exact HSZ.out)
  have HB7 := Lib.hid (HB6.out.trans (hk.below (fun k hk => (HD6.out.lt k hk).1) HB6.out.size))
  clear hd hk hs7 HD6
  have r0 : rstr s7 0 = z ∧ rcode s7 0 = 0 := by unfold rstr rcode; rw [HN7.out]; exact ⟨rfl, rfl⟩
  have r1 : rstr s7 1 = torn 3 b z ∧ rcode s7 1 = 0 := by unfold rstr rcode; rw [HN7.out]; exact ⟨rfl, rfl⟩
  have r4 : rcode s7 4 = 1 := by unfold rcode; rw [HN7.out]; rfl
  have ey : torn 3 b z = ⟨#[98, 98, 98]⟩ ++ same 0 125 := by rw [HBq.out, ← HZ.out, torn_same _ _ _ _ (by decide)]; rfl
  rw [ey] at r1
  have HR0 := Lib.hid r0
  have HR1 := Lib.hid r1
  have HR4 := Lib.hid r4
  clear r0 r1 r4 ey
  go_wp2_with fail
  refine (read_D 0 HD7.out).mono ?_
  rintro e w' ⟨rfl, rfl⟩
  rw [HR0.out.1, HR0.out.2]
  go_wp2_with fail
  refine (read_D 1 HD7.out).mono ?_
  rintro e w' ⟨rfl, rfl⟩
  rw [HR1.out.1, HR1.out.2]
  obtain ⟨q, hq⟩ : ∃ q, q = same 0 125 := ⟨_, rfl⟩
  have hqs : q.size = 125 := by rw [hq]; exact same_size _ _
  rw [← hq]
  have HQ := Lib.hid hq
  clear hq
  go_wp2_with fail
  refine (read_D 4 HD7.out).mono ?_
  rintro e w' ⟨rfl, rfl⟩
  rw [HR4.out]
  obtain ⟨q4, hq4⟩ : ∃ q, q = rstr s7 4 := ⟨_, rfl⟩
  rw [← hq4]
  clear hq4
  go_wp2_with fail
  refine (repeat_any 0 128 _ (by omega)).mono ?_
  rintro e w8 ⟨rfl, hb⟩
  rw [HZ.out]
  have HD8 := Lib.hid (HD7.out.under hb)
  have HB8 := Lib.hid (HB7.out.trans (hb.mono HB7.out.size))
  clear hb HD7
  go_wp2_with fail
  refine (repeat_any 0 125 _ (by omega)).mono ?_
  rintro e w9 ⟨rfl, hb⟩
  rw [← HQ.out]
  have HD9 := Lib.hid (HD8.out.under hb)
  have HB9 := Lib.hid (HB8.out.trans (hb.mono HB8.out.size))
  clear hb HD8
  go_wp2_with fail
  refine (open_D HD9.out).mono ?_
  rintro e w' ⟨rfl, rfl⟩
  rw [HO7.out]
  go_wp2_with fail
  refine (len_D HD9.out).mono ?_
  rintro e w' ⟨rfl, rfl⟩
  rw [HN7.out]
  go_wp2_with fail
  refine (size_D HD9.out).mono ?_
  rintro e w' ⟨rfl, rfl⟩
  rw [HS7.out]
  go_wp2
  go_ret
  exact ⟨rfl, HB9.out⟩
end Go.Proofs.Ytffnalnceceinaa
