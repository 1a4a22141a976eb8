/-
  switchback's DiskLasts: what was flushed lasts, whatever is written behind it to other sectors, and however it crashes. For every input the call returns true, and each argument reads afterwards as it read before. No condition.
-/
import Derived.Test.YtffnalnceceinaaLift
import Derived.Deep.RegionHeld3
namespace Go.Proofs.Ytffnalnceceinaa.diskLasts
open Go.ChangeShapes Go.WideShapes Go.ChangeAt Go.RowKit

/-- Sector 3 lasts as x, and no write behind it speaks of it. -/
structure J (x : ByteArray) (k : Nat) (s : Dk) : Prop where
  l3 : s.last[3]? = some x
  away : ∀ p ∈ s.opn, p.1 ≠ 3
  few : s.opn.length ≤ k
theorem J.write {x : ByteArray} {k : Nat} {s : Dk} {fu : Fu} {i : Int} {b : ByteArray} (h : J x k s) (hi : i ≠ 3) : J x (k + 1) (wstate s fu i b) := by
  unfold wstate
  split
  · exact ⟨h.l3, h.away, Nat.le_succ_of_le h.few⟩
  · rename_i hb
    obtain ⟨h1, _, _⟩ := bad_false (by simpa using hb)
    split
    · refine ⟨h.l3, fun p hp => ?_, by simpa [Dk.write] using h.few⟩
      rcases List.mem_append.1 hp with hp | hp
      · exact h.away p hp
      · obtain rfl := List.mem_singleton.1 hp
        simp
        omega
    · exact ⟨h.l3, h.away, Nat.le_succ_of_le h.few⟩
theorem J.stay {x : ByteArray} {k : Nat} {s : Dk} (h : J x k s) : J x (k + 1) s := ⟨h.l3, h.away, Nat.le_succ_of_le h.few⟩
theorem J.crash {x : ByteArray} {k : Nat} {s : Dk} (h : J x k s) (keep t : Nat) : rstr (s.crash keep t) 3 = x ∧ rcode (s.crash keep t) 3 = 0 := by
  have e : (s.crash keep t).now[3]? = some x := by
    show (s.crashed keep t)[3]? = some x
    rw [Dk.crashed, crashTo_other h.away, h.l3]
  have hl : 3 < (s.crash keep t).now.length := by
    rcases Nat.lt_or_ge 3 (s.crash keep t).now.length with h1 | h1
    · exact h1
    · rw [List.getElem?_eq_none h1] at e; cases e
  have hn : ¬ ((3 : Int) < 0 ∨ ((s.crash keep t).now.length : Int) ≤ 3) := by omega
  refine ⟨?_, if_neg hn⟩
  rw [rstr, if_neg hn, List.getD_eq_getElem?_getD]
  show ((s.crash keep t).now[3]?).getD nil = x
  rw [e]
  rfl
theorem J.start (x : ByteArray) : J x 0 (((fresh 128 8).write 3 x).flush) := ⟨rfl, fun p hp => by simp [Dk.flush] at hp, by simp [Dk.flush]⟩

theorem under_drew {wa w7 : World} (h : Below wa.drew.heap.size wa.drew w7) : Below wa.heap.size wa w7 := ⟨h.os, h.tape, h.output, h.size, h.block⟩
/-- The disk in the loop. -/
def Loop (w0 w : World) (d f : Nat) (x : ByteArray) (k : Nat) : Prop := ∃ (P : Nat → Prop) (s : Dk) (fu : Fu), Dsk w w0.heap.size P d f s fu ∧ J x k s ∧ fu.count ≤ k + 2 ∧ Below w0.heap.size w0 w

set_option maxHeartbeats 1000000 in
theorem walk_long (c : UInt8) (n cp : Nat) (A : Option Addr) (keep : Int) (w : World) (h : 100 < n) (hn : n ≤ maxLen) : Calls Try.prog 4 #[.int .u8 (c.toNat : Int), .slice A n cp, .int .u64 keep] w (Holds w) := by
  unfold maxLen at hn
  have e1 : decide (100 < (n : Int)) = true := by simp; omega
  go_enter Try.func4, Try.ntmps4
  go_wp2_with fail
  refine (new_any _).mono ?_
  rintro e w1 ⟨f, rfl, hg, hz, hb⟩
  have HB1 := Lib.hid hb
  clear hz hb hg
  go_wp2_with fail
  refine (awake_yes _).mono ?_
  rintro e w2 ⟨rfl, hb2⟩
  have HB2 := Lib.hid (HB1.out.trans (hb2.mono HB1.out.size))
  clear hb2
  go_wp2_with fail
  refine (awake_yes _).mono ?_
  rintro e w3 ⟨rfl, hb3⟩
  go_wp2
  go_ret
  exact ⟨rfl, HB2.out.trans (hb3.mono HB2.out.size)⟩

set_option maxHeartbeats 4000000 in
theorem walk_main (c : UInt8) (b off cp : Nat) (xs : List Ac) (keep : Nat) (w : World) (hl : xs.length ≤ 100) (hp : 0 < xs.length) (hb : b < w.heap.size) (hk : keep < 18446744073709551616)
    (hv : ∀ i (hi : i < xs.length), Lies w b (off + i * 5) xs[i]) : Calls Try.prog 4 #[.int .u8 (c.toNat : Int), .slice (some ⟨b, off, none⟩) xs.length cp, .int .u64 (keep : Int)] w (Holds w) := by
  have e1 : decide (100 < (xs.length : Int)) = false := by simp; omega
  have HV := Lib.hid hv
  clear hv
  go_enter Try.func4, Try.ntmps4
  go_wp2_with fail
  refine (new_any _).mono ?_
  rintro e w1 ⟨f, rfl, hg, hz, hb⟩
  have HB1 := Lib.hid hb
  have HZ1 := Lib.hid hz
  have HG := Lib.hid hg
  clear hz hb hg
  go_wp2_with fail
  refine (awake_yes _).mono ?_
  rintro e w2 ⟨rfl, hb⟩
  have HZ2 := Lib.hid (HZ1.out.under hb HZ1.out.lt)
  have HB2 := Lib.hid (HB1.out.trans (hb.mono HB1.out.size))
  clear hb HZ1
  go_wp2_with fail
  refine (new_D (B := w.heap.size) 128 8 128 8 (by decide) (by decide) HZ2.out new_good (Nat.le_of_eq HG.out) HB2.out.size).mono ?_
  rintro e w3 ⟨d, P3, rfl, hd, hb, hp⟩
  have HD3 := Lib.hid hd
  have HB3 := Lib.hid (HB2.out.trans (hb.mono HB2.out.size))
  clear hd hb hp HZ2
  go_wp2_with fail
  refine (fill_any c 128 _ (by decide)).mono ?_
  rintro e w4 ⟨rfl, hb⟩
  have HD4 := Lib.hid (HD3.out.under hb)
  have HB4 := Lib.hid (HB3.out.trans (hb.mono HB3.out.size))
  clear hb HD3
  obtain ⟨x, hx⟩ : ∃ x, x = same c 128 := ⟨_, rfl⟩
  rw [← hx]
  have HX := Lib.hid hx
  have HSX : Hid (x.size = 128) := Lib.hid (by rw [hx]; exact same_size _ _)
  clear hx
  go_wp2_with fail
  refine (write_in 3 x HD4.out (by decide) HSX.out rfl (by decide) (by decide) HB4.out.size).mono ?_
  rintro e w5 ⟨rfl, P5, hd, hk', hp⟩
  have HD5 := Lib.hid hd
  have HB5 := Lib.hid (HB4.out.trans (hk'.below (fun k hk => (HD4.out.lt k hk).1) HB4.out.size))
  clear hd hk' hp HD4
  go_wp2_with fail
  refine (flush_D HD5.out (by show (1 : Int) < 1000000; decide) (by show 1 < 1000000; decide)).mono ?_
  rintro e w6 ⟨rfl, hd, hk'⟩
  rw [show fcode (Fu.spent ⟨false, 0, false, 0⟩) = 0 from rfl]
  have HB6 := Lib.hid (HB5.out.trans (hk'.below (fun k hk => (HD5.out.lt k hk).1) HB5.out.size))
  have HR : Hid (Loop w w6 d f x 0) := Lib.hid ⟨P5, _, _, hd, J.start x, by decide, HB6.out⟩
  clear hd hk' HD5 HB1 HB2 HB3 HB4 HB5 HB6
  go_wp2
  go_loopg [44] xs.length (fun g i wr => ∃ k : Nat, Hid (g = xs.length - k) ∧ k ≤ xs.length ∧ i = .int .i64 k ∧ Hid (Loop w wr d f x k))
  case atStart => exact ⟨0, Lib.hid rfl, Nat.zero_le _, rfl, HR⟩
  case round =>
    obtain ⟨k, HK, hk', rfl, HR⟩ := hrel
    by_cases hlt : k < xs.length
    · obtain ⟨P, s, fu, hd, hj, hcn, hbl⟩ := HR.out
      clear HR
      obtain ⟨v0, v1, v2, v3, v4, v5, v6⟩ := HV.out k hlt
      obtain ⟨⟨kd, at_, n, y, kp⟩, hA⟩ : ∃ A, A = xs[k] := ⟨_, rfl⟩
      rw [← hA] at v0 v1 v2 v3 v4 v5 v6
      simp only at v0 v1 v2 v3 v4 v5 v6
      have k0 := (hbl.cell (p := ⟨b, off + k * 5, none⟩) hb).trans v0
      have k1 := (hbl.cell (p := ⟨b, off + k * 5 + 1, none⟩) hb).trans v1
      have k2 := (hbl.cell (p := ⟨b, off + k * 5 + 2, none⟩) hb).trans v2
      have k3 := (hbl.cell (p := ⟨b, off + k * 5 + 3, none⟩) hb).trans v3
      have k4 := (hbl.cell (p := ⟨b, off + k * 5 + 4, none⟩) hb).trans v4
      clear v0 v1 v2 v3 v4 hA
      have HD := Lib.hid hd
      have HJ := Lib.hid hj
      have HC := Lib.hid hcn
      have HBL := Lib.hid hbl
      clear hd hj hcn hbl
      by_cases h3 : at_ = 3
      · subst h3
        go_wp2
        go_roundg (xs.length - (k + 1))
        case measure => have := HK.out; omega
        case rel => exact ⟨k + 1, Lib.hid rfl, by omega, by go_num, Lib.hid ⟨P, s, fu, HD.out.alloc _, HJ.out.stay, by have := HC.out; omega, HBL.out.alloc HBL.out.size _⟩⟩
      · have e3 : (at_ != 3) = true := by simpa using h3
        have H3 := Lib.hid h3
        clear h3
        obtain ⟨wa, hwa⟩ : ∃ wa, wa = wr.alloc (.cells #[.int .i64 kd, .int .i64 at_, .int .i64 n, .int .u8 (y.toNat : Int), .int .u64 (kp : Int)] 41) := ⟨_, rfl⟩
        have q1 : wa.cell? ⟨wr.heap.size, 1, none⟩ = some (.int .i64 at_) := by rw [hwa]; simp
        have q3 : wa.cell? ⟨wr.heap.size, 3, none⟩ = some (.int .u8 (y.toNat : Int)) := by rw [hwa]; simp
        have HDa : Hid (Dsk wa w.heap.size P d f s fu) := by rw [hwa]; exact Lib.hid (HD.out.alloc _)
        have HBa : Hid (Below w.heap.size w wa) := by rw [hwa]; exact Lib.hid (HBL.out.alloc HBL.out.size _)
        have HSa : Hid (wr.heap.size < wa.heap.size) := by rw [hwa]; exact Lib.hid (by simp)
        have HNP : Hid (¬ P wr.heap.size) := Lib.hid (fun hp => by have := (HD.out.lt _ hp).2; omega)
        go_wp2
        rw [← hwa]
        clear hwa
        go_region_held3 (fun wx => wx.cell? ⟨wr.heap.size, 1, none⟩ = some (.int .i64 at_) ∧ wx.cell? ⟨wr.heap.size, 3, none⟩ = some (.int .u8 (y.toNat : Int))) (first | exact ⟨r1, r3⟩ | exact ⟨p1, p3⟩ | exact ⟨q1, q3⟩) (first | (go_at_call 15; refine (fill_any y 128 _ (by decide)).mono ?_; rintro e w7 ⟨rfl, hb7d⟩; have hb7 := under_drew hb7d; clear hb7d; have p1 := (hb7.cell (p := ⟨wr.heap.size, 1, none⟩) HSa.out).trans q1; have p3 := (hb7.cell (p := ⟨wr.heap.size, 3, none⟩) HSa.out).trans q3) | (go_at_call 14; refine (write_D at_ (same y 128) (HDa.out.under hb7) (by have := HC.out; omega) (by have := HJ.out.few; omega) (Nat.le_trans HBa.out.size hb7.size)).mono ?_; rintro e w8 ⟨rfl, P8, hd8, hk8, hp8⟩; have r1 := (World.cell?_of_block (w := w7) (w' := w8) (a := ⟨wr.heap.size, 1, none⟩) (hk8.block _ (Nat.lt_of_lt_of_le HSa.out hb7.size) HNP.out)).trans p1; have r3 := (World.cell?_of_block (w := w7) (w' := w8) (a := ⟨wr.heap.size, 3, none⟩) (hk8.block _ (Nat.lt_of_lt_of_le HSa.out hb7.size) HNP.out)).trans p3))
        have HD8 := Lib.hid hd8
        have HB8 := Lib.hid ((HBa.out.trans (hb7.mono HBa.out.size)).trans (hk8.below (fun k hk => (HDa.out.lt k hk).1) (Nat.le_trans HBa.out.size hb7.size)))
        clear hd8 hk8 hp8 hb7 p1 p3 r1 r3 q1 q3
        go_wp2
        go_roundg (xs.length - (k + 1))
        case measure => have := HK.out; omega
        case rel =>
          have hcn := wfuse_count s fu at_ (same y 128)
          exact ⟨k + 1, Lib.hid rfl, by omega, by go_num, Lib.hid ⟨P8, _, _, HD8.out, HJ.out.write H3.out, by have := HC.out; omega, HB8.out⟩⟩
    · obtain rfl : k = xs.length := by omega
      obtain ⟨P, s, fu, hd, hj, hcn, hbl⟩ := HR.out
      have HD := Lib.hid hd
      have HJ := Lib.hid hj
      have HBL := Lib.hid hbl
      clear hd hj hcn hbl HR
      go_wp2_with fail
      refine (crash_D keep xs.length hk HD.out (by have := HJ.out.few; omega)).mono ?_
      rintro e w7 ⟨rfl, hd, hk7⟩
      have HD7 := Lib.hid hd
      have HR := Lib.hid (HJ.out.crash keep (cut xs.length s.size))
      have HB7 := Lib.hid (HBL.out.trans (hk7.below (fun k hk => (HD.out.lt k hk).1) HBL.out.size))
      clear hd hk7 HD
      go_wp2_with fail
      refine (read_D 3 HD7.out).mono ?_
      rintro e w' ⟨rfl, rfl⟩
      rw [HR.out.1, HR.out.2]
      go_wp2_with fail
      refine (fill_any c 128 _ (by decide)).mono ?_
      rintro e w8 ⟨rfl, hb8⟩
      rw [← HX.out]
      go_wp2
      go_ret
      exact ⟨rfl, HB7.out.trans (hb8.mono HB7.out.size)⟩

set_option maxHeartbeats 2000000 in
theorem walk_none (c : UInt8) (A : Option Addr) (cp : Nat) (keep : Nat) (w : World) (hk : keep < 18446744073709551616) : Calls Try.prog 4 #[.int .u8 (c.toNat : Int), .slice A 0 cp, .int .u64 (keep : Int)] w (Holds w) := by
  go_enter Try.func4, Try.ntmps4
  go_wp2_with fail
  refine (new_any _).mono ?_
  rintro e w1 ⟨f, rfl, hg, hz, hb⟩
  have HB1 := Lib.hid hb
  have HZ1 := Lib.hid hz
  have HG := Lib.hid hg
  clear hz hb hg
  go_wp2_with fail
  refine (awake_yes _).mono ?_
  rintro e w2 ⟨rfl, hb⟩
  have HZ2 := Lib.hid (HZ1.out.under hb HZ1.out.lt)
  have HB2 := Lib.hid (HB1.out.trans (hb.mono HB1.out.size))
  clear hb HZ1
  go_wp2_with fail
  refine (new_D (B := w.heap.size) 128 8 128 8 (by decide) (by decide) HZ2.out new_good (Nat.le_of_eq HG.out) HB2.out.size).mono ?_
  rintro e w3 ⟨d, P3, rfl, hd, hb, hp⟩
  have HD3 := Lib.hid hd
  have HB3 := Lib.hid (HB2.out.trans (hb.mono HB2.out.size))
  clear hd hb hp HZ2
  go_wp2_with fail
  refine (fill_any c 128 _ (by decide)).mono ?_
  rintro e w4 ⟨rfl, hb⟩
  have HD4 := Lib.hid (HD3.out.under hb)
  have HB4 := Lib.hid (HB3.out.trans (hb.mono HB3.out.size))
  clear hb HD3
  obtain ⟨x, hx⟩ : ∃ x, x = same c 128 := ⟨_, rfl⟩
  rw [← hx]
  have HX := Lib.hid hx
  have HSX : Hid (x.size = 128) := Lib.hid (by rw [hx]; exact same_size _ _)
  clear hx
  go_wp2_with fail
  refine (write_in 3 x HD4.out (by decide) HSX.out rfl (by decide) (by decide) HB4.out.size).mono ?_
  rintro e w5 ⟨rfl, P5, hd, hk', hp⟩
  have HD5 := Lib.hid hd
  have HB5 := Lib.hid (HB4.out.trans (hk'.below (fun k hk => (HD4.out.lt k hk).1) HB4.out.size))
  clear hd hk' hp HD4
  go_wp2_with fail
  refine (flush_D HD5.out (by show (1 : Int) < 1000000; decide) (by show 1 < 1000000; decide)).mono ?_
  rintro e w6 ⟨rfl, hd, hk'⟩
  rw [show fcode (Fu.spent ⟨false, 0, false, 0⟩) = 0 from rfl]
  have HB6 := Lib.hid (HB5.out.trans (hk'.below (fun k hk => (HD5.out.lt k hk).1) HB5.out.size))
  have HR : Hid (Loop w w6 d f x 0) := Lib.hid ⟨P5, _, _, hd, J.start x, by decide, HB6.out⟩
  clear hd hk' HD5 HB1 HB2 HB3 HB4 HB5 HB6
  go_wp2
  refine wp_loop_rounds 1 ?_
  rw [rounds_succ]
  obtain ⟨P, s, fu, hd, hj, hcn, hbl⟩ := HR.out
  have HD := Lib.hid hd
  have HJ := Lib.hid hj
  have HBL := Lib.hid hbl
  clear hd hj hcn hbl HR
  go_wp2_with fail
  refine (crash_D keep 0 hk HD.out (by have := HJ.out.few; omega)).mono ?_
  rintro e w7 ⟨rfl, hd, hk7⟩
  have HD7 := Lib.hid hd
  have HR := Lib.hid (HJ.out.crash keep (cut 0 s.size))
  have HB7 := Lib.hid (HBL.out.trans (hk7.below (fun k hk => (HD.out.lt k hk).1) HBL.out.size))
  clear hd hk7 HD
  go_wp2_with fail
  refine (read_D 3 HD7.out).mono ?_
  rintro e w' ⟨rfl, rfl⟩
  rw [HR.out.1, HR.out.2]
  go_wp2_with fail
  refine (fill_any c 128 _ (by decide)).mono ?_
  rintro e w8 ⟨rfl, hb8⟩
  rw [← HX.out]
  go_wp2
  go_ret
  exact ⟨rfl, HB7.out.trans (hb8.mono HB7.out.size)⟩

theorem walk (c : UInt8) (v : Value) (keep : Nat) (w : World) (hk : keep < 18446744073709551616) (h : Acts w v) : Calls Try.prog 4 #[.int .u8 (c.toNat : Int), v, .int .u64 (keep : Int)] w (Holds w) := by
  rcases h with ⟨A, cp, rfl⟩ | ⟨b, off, cp, xs, rfl, hx, h0, hb, hv⟩
  · exact walk_none c A cp keep w hk
  · by_cases h5 : 100 < xs.length
    · exact walk_long c xs.length cp _ keep w h5 hx
    · exact walk_main c b off cp xs keep w (by omega) h0 hb hk hv

/-! From the walk to the given row. -/
set_option maxRecDepth 100000 in
theorem lifted (os : Os) (started : os.Started) (H : Type) (enc : TypeId × Value → H) :
    ReturnsInHanded {} Try.checked os 4 .any (Rows.diskLastsSpec.pre6 enc Try.prog Try.f4 Rows.diskLastsRow.domain false) (Rows.diskLastsSpec.post enc Try.prog Try.f4 false true false false) := by
  refine returnsInHanded_of_change (C := Try.checked) t_own started (by kernel_rfl) Try.func4
    (ChangeSpec.witness6 (enc := enc) (C := Try.checked) false ⟨#[], #[.int .u8 0, .slice none 0 0, .int .u64 0], []⟩ 8 (by kernel_rfl) (by kernel_rfl) (by kernel_rfl) (by kernel_rfl)) ?_
  intro W base args ds gs before hval0 hW hcnd _
  have hval : ∀ (j : Nat) t v, Try.f4.params[j]? = some t → args[j]? = some v → Value.okWide Try.prog W .any base t v := hval0
  have hW' := hW
  obtain ⟨p, q, hA0, hV, rfl, hfz, hnd⟩ := hW
  have hA : DataW.TrodAll enc Try.prog W 0 (fun _ => true) true Try.f4.params.toList args.toList ds p := hA0
  rw [Try.params4] at hA hval
  obtain ⟨v0, vs0, d0, ds0, p0, q0, hargs, rfl, rfl, h0, r0⟩ := trodAll_cons hA
  obtain ⟨v1, vs1, d1, ds1, p1, q1, rfl, rfl, rfl, h1, r1⟩ := trodAll_cons r0
  obtain ⟨v2, vs2, d2, ds2, p2, q2, rfl, rfl, rfl, h2, r2⟩ := trodAll_cons r1
  obtain ⟨rfl, rfl, rfl⟩ := trodAll_nil r2
  obtain rfl : args = #[v0, v1, v2] := by cases args; simp_all
  obtain ⟨a0, rfl, rfl, rfl, w0⟩ := open_int Try.underlying5 (hval 0 5 v0 rfl rfl) h0
  obtain ⟨a2, rfl, rfl, rfl, w2⟩ := open_int Try.underlying39 (hval 2 39 v2 rfl rfl) h2
  obtain ⟨x, rfl⟩ := u8_is w0
  obtain ⟨y, hy, rfl⟩ := u64_is w2
  refine (walk x v1 y W hy (open_acts (hval 1 23 v1 rfl rfl) h1)).mono fun e W' ⟨he, hb⟩ => ?_
  subst he
  exact ⟨_, rfl, post_of_holds hW' (by kernel_rfl) rfl (by rw [Try.params4]; exact fun t ht => params_ok t (by simp at ht; rcases ht with rfl | rfl | rfl <;> simp)) ⟨rfl, rfl, rfl⟩ hb⟩

/-- The given statement. -/
theorem proved : Rows.DiskLastsSaid :=
  OpenClaim.holds_of_wide 4 Try.f4 rfl rfl rfl rfl rfl rfl rfl ⟨rfl, rfl, rfl, rfl, rfl⟩ rfl rfl rfl rfl rfl (by kernel_rfl) Try.func4 (by kernel_rfl)
    (of_decide_eq_true (by kernel_rfl)) (by unfold Func.isWrapper; first | (rw [if_pos (by decide +kernel)]; kernel_rfl) | (rw [if_neg (by decide +kernel)]; exact ⟨rfl, rfl⟩))
    (fun os started H enc _ => lifted os started H enc)
#print axioms proved
end Go.Proofs.Ytffnalnceceinaa.diskLasts
