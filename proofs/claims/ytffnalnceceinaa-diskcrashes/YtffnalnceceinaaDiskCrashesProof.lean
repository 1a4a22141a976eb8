/-
  switchback's DiskCrashes: with all of it kept, and the last one whole, all that was written lasts; with none of it nothing does. For every input the call returns true, and each argument reads afterwards as it read before. No condition.
-/
import Derived.Test.YtffnalnceceinaaLift
import Derived.Deep.RegionHeld3
namespace Go.Proofs.Ytffnalnceceinaa.diskCrashes
open Go.ChangeShapes Go.WideShapes Go.ChangeAt Go.RowKit

theorem under_drew {wa w7 : World} (h : Below wa.drew.heap.size wa.drew w7) : Below wa.heap.size wa w7 := ⟨h.os, h.tape, h.output, h.size, h.block⟩

/-! All is kept, or nothing. -/
def play (opn : List (Nat × ByteArray)) (l : List ByteArray) : List ByteArray := opn.foldl (fun l p => l.set p.1 p.2) l
theorem bits_small : ∀ j, j < 64 → (18446744073709551615 / 2 ^ j % 2 == 1) = true := by decide
theorem bit_all (i : Nat) : bit 18446744073709551615 i = true := bits_small (i % 64) (Nat.mod_lt _ (by decide))
theorem bit_none (i : Nat) : bit 0 i = false := by simp [bit]
theorem lastK_none : ∀ n, lastK 0 n = -1
  | 0 => rfl
  | n + 1 => by simp [lastK, bit_none, lastK_none n]
theorem torn_whole (b o : ByteArray) (h : b.size = o.size) : torn b.size b o = b := by
  have key : ∀ x y : ByteArray, x.data.toList = y.data.toList → x = y := fun x y h => by
    cases x; cases y
    congr 1
    exact Array.toList_inj.1 h
  apply key
  have h1 : o.extract b.size o.size = ⟨#[]⟩ := by
    apply key
    simp [h]
  rw [torn, h1, ByteArray.data_append]
  simp
theorem crash_all {s : Dk} (h : s.Good) (lk : Int) : ∀ k, k ≤ s.opn.length → crashTo 18446744073709551615 lk s.size s.opn s.last k = play (s.opn.take k) s.last
  | 0, _ => by simp [crashTo, play]
  | k + 1, hk => by
    have hlt : k < s.opn.length := by omega
    have hp := h.opns _ (List.getElem_mem hlt)
    have hl : s.opn[k].1 < (crashTo 18446744073709551615 lk s.size s.opn s.last k).length := by rw [crashTo_len, h.len]; exact hp.1
    have ho := crashTo_sizes (keep := 18446744073709551615) (lk := lk) h.lasts (fun p hp => by rw [h.len]; exact h.opns p hp) (Nat.le_refl s.size) k _ (getD_mem hl)
    have e : step 18446744073709551615 lk s.size (crashTo 18446744073709551615 lk s.size s.opn s.last k) k s.opn[k] = (crashTo 18446744073709551615 lk s.size s.opn s.last k).set s.opn[k].1 s.opn[k].2 := by
      unfold step
      split
      · have e1 : s.size = s.opn[k].2.size := hp.2.symm
        rw [show torn s.size s.opn[k].2 ((crashTo 18446744073709551615 lk s.size s.opn s.last k).getD s.opn[k].1 nil) = s.opn[k].2 by
          have := torn_whole s.opn[k].2 ((crashTo 18446744073709551615 lk s.size s.opn s.last k).getD s.opn[k].1 nil) (by rw [hp.2, ho])
          rw [hp.2] at this
          exact this]
      · rw [if_pos (bit_all k)]
    rw [crashTo_succ hlt, e, crash_all h lk k (by omega), play, play, List.take_succ_eq_append_getElem hlt, List.foldl_append]
    rfl
theorem crash_none (s : Dk) (t : Nat) : ∀ k, crashTo 0 (-1) t s.opn s.last k = s.last
  | 0 => rfl
  | k + 1 => by
    unfold crashTo
    split
    · rw [crash_none s t k]
      unfold step
      rw [if_neg (by omega), if_neg (by simp [bit_none])]
    · exact crash_none s t k

/-- What the three disks are: all that was written is what the writes make of sectors of bytes 0. -/
structure J (k : Nat) (s : Dk) : Prop where
  full : s.now = play s.opn s.last
  blank : s.last = List.replicate 8 (same 0 128)
  size : s.size = 128
  few : s.opn.length ≤ k
theorem J.start : J 0 (fresh 128 8) := ⟨rfl, rfl, rfl, Nat.le_refl _⟩
theorem J.write {k : Nat} {s : Dk} (h : J k s) (fu : Fu) (i : Int) (b : ByteArray) : J (k + 1) (wstate s fu i b) := by
  unfold wstate
  split
  · exact ⟨h.full, h.blank, h.size, Nat.le_succ_of_le h.few⟩
  · split
    · refine ⟨?_, h.blank, h.size, by simpa [Dk.write] using h.few⟩
      show s.now.set i.toNat b = play (s.opn ++ [(i.toNat, b)]) s.last
      rw [play, List.foldl_append, h.full]
      rfl
    · exact ⟨h.full, h.blank, h.size, Nat.le_succ_of_le h.few⟩
theorem J.len {k : Nat} {s : Dk} (h : J k s) (hg : s.Good) : s.now.length = 8 := by rw [← hg.len, h.blank]; rfl
theorem J.all {k : Nat} {s : Dk} (h : J k s) (hg : s.Good) (i : Nat) : rstr (s.crash 18446744073709551615 (cut 128 s.size)) i = rstr s.flush i := by
  have e : (s.crash 18446744073709551615 (cut 128 s.size)).now = s.flush.now := by
    have hc : cut 128 s.size = s.size := by rw [h.size]; decide
    show s.crashed 18446744073709551615 (cut 128 s.size) = s.now
    rw [Dk.crashed, hc, crash_all hg _ _ (Nat.le_refl _), List.take_length, h.full]
  unfold rstr
  rw [e]
theorem J.none {k : Nat} {s : Dk} (h : J k s) (t : Nat) (i : Nat) (hi : i < 8) : rstr (s.crash 0 t) i = same 0 128 := by
  have e : (s.crash 0 t).now = List.replicate 8 (same 0 128) := by
    show s.crashed 0 t = _
    rw [Dk.crashed, lastK_none, crash_none, h.blank]
  unfold rstr
  rw [e, if_neg (by simp; omega), Int.toNat_natCast, List.getD_eq_getElem?_getD, List.getElem?_replicate, if_pos hi]
  rfl

/-- The three disks in the loop: alike, and apart. -/
def Loop (w0 w : World) (a b c f g h k : Nat) : Prop := ∃ (P Q R : Nat → Prop) (s : Dk) (fu : Fu), Dsk w w0.heap.size P a f s fu ∧ Dsk w w0.heap.size Q b g s fu ∧ Dsk w w0.heap.size R c h s fu ∧
  (∀ k, P k → ¬ Q k) ∧ (∀ k, P k → ¬ R k) ∧ (∀ k, Q k → ¬ R k) ∧ J k s ∧ fu.armed = false ∧ fu.count ≤ k ∧ Below w0.heap.size w0 w
theorem free_ok' {fu : Fu} (h : fu.armed = false) : fu.ok = true := by simp [Fu.ok, h]
theorem free_armed {s : Dk} {fu : Fu} {i : Int} {b : ByteArray} (h : fu.armed = false) : (wfuse s fu i b).armed = false := by
  unfold wfuse Fu.spent
  split
  · exact h
  · split <;> exact h
theorem apart_grow {P P' Q : Nat → Prop} {n : Nat} (hp : ∀ k, P' k → P k ∨ n ≤ k) (hQ : ∀ k, Q k → k < n) (h : ∀ k, P k → ¬ Q k) : ∀ k, P' k → ¬ Q k := fun k hk hq => by
  rcases hp k hk with h1 | h1
  · exact h k h1 hq
  · have := hQ k hq
    omega
theorem cell_stays {w w' : World} {P : Nat → Prop} (h : Kept P w w') {a i : Nat} (ha : a < w.heap.size) (hn : ¬ P a) : w'.cell? ⟨a, i, none⟩ = w.cell? ⟨a, i, none⟩ := World.cell?_of_block (w := w) (w' := w') (a := ⟨a, i, none⟩) (h.block a ha hn)

theorem fill_zero (w : World) : Calls Try.prog 15 #[.int .u8 0, .int .i64 128] w fun e w' => e = .returned (.string (same 0 128)) ∧ Below w.heap.size w w' := fill_any 0 128 w (by decide)
theorem crash_zero {P : Nat → Prop} {w : World} {B d f : Nat} {s : Dk} {fu : Fu} (t : Int) (h : Dsk w B P d f s fu) (hl : s.opn.length < 1000000) :
    Calls Try.prog 19 #[.pointer (some ⟨d, 0, none⟩), .int .u64 0, .int .i64 t] w fun e w' => e = .returned (.tuple #[]) ∧ Dsk w' B P d f (s.crash 0 (cut t s.size)) fu.reset ∧ Kept P w w' := crash_D 0 t (by decide) h hl

set_option maxRecDepth 20000 in
set_option maxHeartbeats 1000000 in
theorem walk_long (n cp : Nat) (A : Option Addr) (w : World) (h : 60 < n) (hn : n ≤ maxLen) : Calls Try.prog 5 #[.slice A n cp] w (Holds w) := by
  unfold maxLen at hn
  have e1 : decide (60 < (n : Int)) = true := by simp; omega
  go_enter Try.func5, Try.ntmps5
  go_wp2_with fail
  refine (new_any _).mono ?_
  rintro e w1 ⟨f, rfl, hg, hz, hb⟩
  have HB1 := Lib.hid hb
  clear hz hb hg
  go_wp2_with fail
  refine (new_any _).mono ?_
  rintro e w2 ⟨g, rfl, hg, hz, hb⟩
  have HB2 := Lib.hid (HB1.out.trans (hb.mono HB1.out.size))
  clear hz hb hg
  go_wp2_with fail
  refine (new_any _).mono ?_
  rintro e w3 ⟨h', rfl, hg, hz, hb⟩
  have HB3 := Lib.hid (HB2.out.trans (hb.mono HB2.out.size))
  clear hz hb hg
  go_wp2_with fail
  refine (awake_yes _).mono ?_
  rintro e w4 ⟨rfl, hb⟩
  have HB4 := Lib.hid (HB3.out.trans (hb.mono HB3.out.size))
  clear hb
  go_wp2_with fail
  refine (awake_yes _).mono ?_
  rintro e w5 ⟨rfl, hb⟩
  go_wp2
  go_ret
  exact ⟨rfl, HB4.out.trans (hb.mono HB4.out.size)⟩

theorem Fz.past {w w' : World} {b : Nat} {t : TypeId} {s : Fu} (h : Fz w b t s) (hb : Below w.heap.size w w') : Fz w' b t s := h.under hb h.lt

set_option maxRecDepth 20000 in
set_option maxHeartbeats 8000000 in
theorem walk_main (b off cp : Nat) (xs : List Ac) (w : World) (hl : xs.length ≤ 60) (hp : 0 < xs.length) (hb : b < w.heap.size)
    (hv : ∀ i (hi : i < xs.length), Lies w b (off + i * 5) xs[i]) : Calls Try.prog 5 #[.slice (some ⟨b, off, none⟩) xs.length cp] w (Holds w) := by
  have e1 : decide (60 < (xs.length : Int)) = false := by simp; omega
  have HV := Lib.hid hv
  clear hv
  go_enter Try.func5, Try.ntmps5
  go_wp2_with fail
  refine (new_any _).mono ?_
  rintro e w1 ⟨f, rfl, hg, hz, hb⟩
  have HF1 := Lib.hid hz
  have HGF := Lib.hid hg
  have HB1 := Lib.hid hb
  clear hz hb hg
  go_wp2_with fail
  refine (new_any _).mono ?_
  rintro e w2 ⟨g, rfl, hg, hz, hb⟩
  have HF2 := Lib.hid (Fz.past HF1.out hb)
  have HG2 := Lib.hid hz
  have HFG : Hid (f < g) := Lib.hid (by rw [← hg]; exact HF1.out.lt)
  have HB2 := Lib.hid (HB1.out.trans (hb.mono HB1.out.size))
  clear hz hb hg HF1
  go_wp2_with fail
  refine (new_any _).mono ?_
  rintro e w3 ⟨h, rfl, hg, hz, hb⟩
  have HF3 := Lib.hid (Fz.past HF2.out hb)
  have HG3 := Lib.hid (Fz.past HG2.out hb)
  have HH3 := Lib.hid hz
  have HGH : Hid (g < h) := Lib.hid (by rw [← hg]; exact HG2.out.lt)
  have HB3 := Lib.hid (HB2.out.trans (hb.mono HB2.out.size))
  clear hz hb hg HF2 HG2
  go_wp2_with fail
  refine (awake_yes _).mono ?_
  rintro e w4 ⟨rfl, hb⟩
  have HF4 := Lib.hid (Fz.past HF3.out hb)
  have HG4 := Lib.hid (Fz.past HG3.out hb)
  have HH4 := Lib.hid (Fz.past HH3.out hb)
  have HB4 := Lib.hid (HB3.out.trans (hb.mono HB3.out.size))
  clear hb HF3 HG3 HH3
  go_wp2_with fail
  refine (new_D (B := w.heap.size) 128 8 128 8 (by decide) (by decide) HF4.out new_good (Nat.le_of_eq HGF.out) HB4.out.size).mono ?_
  rintro e w5 ⟨a, P, rfl, hd, hb, hp⟩
  have HA5 := Lib.hid hd
  have HP5 := Lib.hid hp
  have HG5 := Lib.hid (Fz.past HG4.out hb)
  have HH5 := Lib.hid (Fz.past HH4.out hb)
  have HB5 := Lib.hid (HB4.out.trans (hb.mono HB4.out.size))
  have HS5 := Lib.hid hb.size
  clear hd hp hb
  go_wp2_with fail
  refine (new_D (B := w.heap.size) 128 8 128 8 (by decide) (by decide) HG5.out new_good (Nat.le_trans (Nat.le_of_eq HGF.out) (Nat.le_of_lt HFG.out)) HB5.out.size).mono ?_
  rintro e w6 ⟨b', Q, rfl, hd, hb, hp⟩
  have HA6 := Lib.hid (HA5.out.under hb)
  have HQ6 := Lib.hid hp
  have HD6 := Lib.hid hd
  have HH6 := Lib.hid (Fz.past HH5.out hb)
  have HB6 := Lib.hid (HB5.out.trans (hb.mono HB5.out.size))
  have HS6 := Lib.hid hb.size
  clear hd hp hb
  go_wp2_with fail
  refine (new_D (B := w.heap.size) 128 8 128 8 (by decide) (by decide) HH6.out new_good (Nat.le_trans (Nat.le_of_eq HGF.out) (Nat.le_of_lt (Nat.lt_trans HFG.out HGH.out))) HB6.out.size).mono ?_
  rintro e w7 ⟨c, R, rfl, hd, hb, hp⟩
  have HB7 := Lib.hid (HB6.out.trans (hb.mono HB6.out.size))
  have HR : Hid (Loop w w7 a b' c f g h 0) := by
    refine Lib.hid ⟨P, Q, R, _, _, HA6.out.under hb, HD6.out.under hb, hd, fun k h1 h2 => ?_, fun k h1 h2 => ?_, fun k h1 h2 => ?_, J.start, rfl, by decide, HB7.out⟩
    · have a1 := HP5.out k h1
      have a2 := HQ6.out k h2
      have a3 := (HA5.out.lt k h1).2
      have a4 := HG4.out.lt
      have a5 := HFG.out
      omega
    · have a1 := HP5.out k h1
      have a2 := hp k h2
      have a3 := (HA5.out.lt k h1).2
      have a4 := HH4.out.lt
      have a5 := HFG.out
      have a6 := HGH.out
      have a7 := HS6.out
      omega
    · have a1 := HQ6.out k h1
      have a2 := hp k h2
      have a3 := (HD6.out.lt k h1).2
      have a4 := HH5.out.lt
      have a5 := HGH.out
      omega
  clear hd hp hb HA5 HP5 HG5 HH5 HB5 HS5 HA6 HQ6 HD6 HH6 HB6 HS6 HB7 HF4 HG4 HH4 HB1 HB2 HB3 HB4
  go_wp2
  go_loopg [59] xs.length (fun g' i wr => ∃ k : Nat, Hid (g' = xs.length - k) ∧ k ≤ xs.length ∧ i = .int .i64 k ∧ Hid (Loop w wr a b' c f g h k))
  case atStart => exact ⟨0, Lib.hid rfl, Nat.zero_le _, rfl, HR⟩
  case round =>
    obtain ⟨k, HK, hk', rfl, HR⟩ := hrel
    by_cases hlt : k < xs.length
    · obtain ⟨P, Q, R, s, fu, hd1, hd2, hd3, hpq, hpr, hqr, hj, hfa, hcn, hbl⟩ := HR.out
      clear HR
      obtain ⟨v0, v1, v2, v3, v4, v5, v6⟩ := HV.out k hlt
      obtain ⟨⟨kd, at_, nn, y, kp⟩, hA⟩ : ∃ A, A = xs[k] := ⟨_, rfl⟩
      rw [← hA] at v0 v1 v2 v3 v4 v5 v6
      simp only at v0 v1 v2 v3 v4 v5 v6
      have k0 := (hbl.cell (p := ⟨b, off + k * 5, none⟩) hb).trans v0
      have k1 := (hbl.cell (p := ⟨b, off + k * 5 + 1, none⟩) hb).trans v1
      have k2 := (hbl.cell (p := ⟨b, off + k * 5 + 2, none⟩) hb).trans v2
      have k3 := (hbl.cell (p := ⟨b, off + k * 5 + 3, none⟩) hb).trans v3
      have k4 := (hbl.cell (p := ⟨b, off + k * 5 + 4, none⟩) hb).trans v4
      clear v0 v1 v2 v3 v4 hA
      have HD1 := Lib.hid hd1
      have HD2 := Lib.hid hd2
      have HD3 := Lib.hid hd3
      have HPQ := Lib.hid hpq
      have HPR := Lib.hid hpr
      have HQR := Lib.hid hqr
      have HJ := Lib.hid hj
      have HFA := Lib.hid hfa
      have HC := Lib.hid hcn
      have HBL := Lib.hid hbl
      clear hd1 hd2 hd3 hpq hpr hqr hj hfa hcn hbl
      obtain ⟨A, hAA⟩ : ∃ A, A = wr.heap.size := ⟨_, rfl⟩
      obtain ⟨wa, hwa⟩ : ∃ wa, wa = wr.alloc (.cells #[.int .i64 kd, .int .i64 at_, .int .i64 nn, .int .u8 (y.toNat : Int), .int .u64 (kp : Int)] 41) := ⟨_, rfl⟩
      have q1 : wa.cell? ⟨A, 1, none⟩ = some (.int .i64 at_) := by rw [hwa, hAA]; simp
      have q3 : wa.cell? ⟨A, 3, none⟩ = some (.int .u8 (y.toNat : Int)) := by rw [hwa, hAA]; simp
      have HA1 : Hid (Dsk wa w.heap.size P a f s fu) := by rw [hwa]; exact Lib.hid (HD1.out.alloc _)
      have HA2 : Hid (Dsk wa w.heap.size Q b' g s fu) := by rw [hwa]; exact Lib.hid (HD2.out.alloc _)
      have HA3 : Hid (Dsk wa w.heap.size R c h s fu) := by rw [hwa]; exact Lib.hid (HD3.out.alloc _)
      have HBa : Hid (Below w.heap.size w wa) := by rw [hwa]; exact Lib.hid (HBL.out.alloc HBL.out.size _)
      have HSa : Hid (A < wa.heap.size) := by rw [hwa, hAA]; exact Lib.hid (by simp)
      have HN1 : Hid (¬ P A) := Lib.hid (fun hp => by have := (HD1.out.lt _ hp).2; omega)
      have HN2 : Hid (¬ Q A) := Lib.hid (fun hp => by have := (HD2.out.lt _ hp).2; omega)
      have HN3 : Hid (¬ R A) := Lib.hid (fun hp => by have := (HD3.out.lt _ hp).2; omega)
      have HCN : Hid (fu.count < 1000000) := Lib.hid (by have := HC.out; omega)
      have HLN : Hid (s.opn.length < 1000000) := Lib.hid (by have := HJ.out.few; omega)
      clear HD1 HD2 HD3 HBL
      go_wp2
      rw [← hwa, ← hAA]
      clear hwa hAA
      go_region_held3 (fun wx => wx.cell? ⟨A, 1, none⟩ = some (.int .i64 at_) ∧ wx.cell? ⟨A, 3, none⟩ = some (.int .u8 (y.toNat : Int))) (first | exact ⟨r1, r3⟩ | exact ⟨p1, p3⟩ | exact ⟨q1, q3⟩) (first | (go_at_call 15; refine (fill_any y 128 _ (by decide)).mono ?_; rintro e w8 ⟨rfl, hb8d⟩; have hb8 := under_drew hb8d; clear hb8d; have p1 := (hb8.cell (p := ⟨A, 1, none⟩) HSa.out).trans q1; have p3 := (hb8.cell (p := ⟨A, 3, none⟩) HSa.out).trans q3) | (go_at_call 14; refine (write_D at_ (same y 128) (HA1.out.under hb8) HCN.out HLN.out (Nat.le_trans HBa.out.size hb8.size)).mono ?_; rintro e w9 ⟨rfl, P9, hd9, hk9, hp9⟩; have r1 := (cell_stays hk9 (i := 1) (Nat.lt_of_lt_of_le HSa.out hb8.size) HN1.out).trans p1; have r3 := (cell_stays hk9 (i := 3) (Nat.lt_of_lt_of_le HSa.out hb8.size) HN1.out).trans p3))
      have HE1 := Lib.hid hd9
      have HE2 := Lib.hid ((HA2.out.under hb8).kept hk9 fun k h2 h1 => HPQ.out k h1 h2)
      have HE3 := Lib.hid ((HA3.out.under hb8).kept hk9 fun k h3 h1 => HPR.out k h1 h3)
      have HPQ9 := Lib.hid (apart_grow hp9 (fun k hk => ((HA2.out.under hb8).lt k hk).2) HPQ.out)
      have HPR9 := Lib.hid (apart_grow hp9 (fun k hk => ((HA3.out.under hb8).lt k hk).2) HPR.out)
      have HBe := Lib.hid ((HBa.out.trans (hb8.mono HBa.out.size)).trans (hk9.below (fun k hk => (HA1.out.lt k hk).1) (Nat.le_trans HBa.out.size hb8.size)))
      have HSe : Hid (A < w9.heap.size) := Lib.hid (Nat.lt_of_lt_of_le HSa.out (Nat.le_trans hb8.size hk9.size))
      clear hd9 hk9 hp9 hb8 p1 p3 q1 q3 HA1 HA2 HA3 HBa HSa HPQ HPR HN1
      go_wp2
      go_region_held3 (fun wx => wx.cell? ⟨A, 1, none⟩ = some (.int .i64 at_) ∧ wx.cell? ⟨A, 3, none⟩ = some (.int .u8 (y.toNat : Int))) (first | exact ⟨t1, t3⟩ | exact ⟨p1, p3⟩ | exact ⟨r1, r3⟩) (first | (go_at_call 15; refine (fill_any y 128 _ (by decide)).mono ?_; rintro e w10 ⟨rfl, hb10d⟩; have hb10 := under_drew hb10d; clear hb10d; have p1 := (hb10.cell (p := ⟨A, 1, none⟩) HSe.out).trans r1; have p3 := (hb10.cell (p := ⟨A, 3, none⟩) HSe.out).trans r3) | (go_at_call 14; refine (write_D at_ (same y 128) (HE2.out.under hb10) HCN.out HLN.out (Nat.le_trans HBe.out.size hb10.size)).mono ?_; rintro e w11 ⟨rfl, Q11, hd11, hk11, hp11⟩; have t1 := (cell_stays hk11 (i := 1) (Nat.lt_of_lt_of_le HSe.out hb10.size) HN2.out).trans p1; have t3 := (cell_stays hk11 (i := 3) (Nat.lt_of_lt_of_le HSe.out hb10.size) HN2.out).trans p3))
      have HG1 := Lib.hid ((HE1.out.under hb10).kept hk11 fun k h1 h2 => HPQ9.out k h1 h2)
      have HG2 := Lib.hid hd11
      have HG3 := Lib.hid ((HE3.out.under hb10).kept hk11 fun k h3 h2 => HQR.out k h2 h3)
      have HPQ11 := Lib.hid (apart_grow hp11 (fun k hk => ((HE1.out.under hb10).lt k hk).2) fun k h2 h1 => HPQ9.out k h1 h2)
      have HQR11 := Lib.hid (apart_grow hp11 (fun k hk => ((HE3.out.under hb10).lt k hk).2) HQR.out)
      have HBg := Lib.hid ((HBe.out.trans (hb10.mono HBe.out.size)).trans (hk11.below (fun k hk => (HE2.out.lt k hk).1) (Nat.le_trans HBe.out.size hb10.size)))
      have HSg : Hid (A < w11.heap.size) := Lib.hid (Nat.lt_of_lt_of_le HSe.out (Nat.le_trans hb10.size hk11.size))
      clear hd11 hk11 hp11 hb10 p1 p3 r1 r3 HE1 HE2 HE3 HBe HSe HPQ9 HQR HN2
      go_wp2
      go_region_held3 (fun wx => wx.cell? ⟨A, 1, none⟩ = some (.int .i64 at_) ∧ wx.cell? ⟨A, 3, none⟩ = some (.int .u8 (y.toNat : Int))) (first | exact ⟨r1, r3⟩ | exact ⟨p1, p3⟩ | exact ⟨t1, t3⟩) (first | (go_at_call 15; refine (fill_any y 128 _ (by decide)).mono ?_; rintro e w12 ⟨rfl, hb12d⟩; have hb12 := under_drew hb12d; clear hb12d; have p1 := (hb12.cell (p := ⟨A, 1, none⟩) HSg.out).trans t1; have p3 := (hb12.cell (p := ⟨A, 3, none⟩) HSg.out).trans t3) | (go_at_call 14; refine (write_D at_ (same y 128) (HG3.out.under hb12) HCN.out HLN.out (Nat.le_trans HBg.out.size hb12.size)).mono ?_; rintro e w13 ⟨rfl, R13, hd13, hk13, hp13⟩; have r1 := (cell_stays hk13 (i := 1) (Nat.lt_of_lt_of_le HSg.out hb12.size) HN3.out).trans p1; have r3 := (cell_stays hk13 (i := 3) (Nat.lt_of_lt_of_le HSg.out hb12.size) HN3.out).trans p3))
      have HI1 := Lib.hid ((HG1.out.under hb12).kept hk13 fun k h1 h3 => HPR9.out k h1 h3)
      have HI2 := Lib.hid ((HG2.out.under hb12).kept hk13 fun k h2 h3 => HQR11.out k h2 h3)
      have HI3 := Lib.hid hd13
      have HPR13 := Lib.hid (apart_grow hp13 (fun k hk => ((HG1.out.under hb12).lt k hk).2) fun k h3 h1 => HPR9.out k h1 h3)
      have HQR13 := Lib.hid (apart_grow hp13 (fun k hk => ((HG2.out.under hb12).lt k hk).2) fun k h3 h2 => HQR11.out k h2 h3)
      have HBi := Lib.hid ((HBg.out.trans (hb12.mono HBg.out.size)).trans (hk13.below (fun k hk => (HG3.out.lt k hk).1) (Nat.le_trans HBg.out.size hb12.size)))
      clear hd13 hk13 hp13 hb12 p1 p3 r1 r3 t1 t3 HG1 HG2 HG3 HBg HSg HPR9 HQR11 HN3
      go_wp2
      go_roundg (xs.length - (k + 1))
      case measure => have := HK.out; omega
      case rel =>
        have hcn := wfuse_count s fu at_ (same y 128)
        exact ⟨k + 1, Lib.hid rfl, by omega, by go_num, Lib.hid ⟨P9, Q11, R13, _, _, HI1.out, HI2.out, HI3.out, fun k h1 h2 => HPQ11.out k h2 h1, fun k h1 h3 => HPR13.out k h3 h1, fun k h2 h3 => HQR13.out k h3 h2, HJ.out.write fu at_ (same y 128), free_armed HFA.out, by have := HC.out; omega, HBi.out⟩⟩
    · obtain rfl : k = xs.length := by omega
      obtain ⟨K, hK⟩ : ∃ K, K = xs.length := ⟨_, rfl⟩
      have hK60 : K ≤ 60 := by omega
      rw [← hK] at HR
      clear hK hlt hk'
      obtain ⟨P, Q, R, s, fu, hd1, hd2, hd3, hpq, hpr, hqr, hj, hfa, hcn, hbl⟩ := HR.out
      clear HR
      have HD1 := Lib.hid hd1
      have HD2 := Lib.hid hd2
      have HD3 := Lib.hid hd3
      have HPQ := Lib.hid hpq
      have HPR := Lib.hid hpr
      have HQR := Lib.hid hqr
      have HJ := Lib.hid hj
      have HFA := Lib.hid hfa
      have HBL := Lib.hid hbl
      have HE0 := Lib.hid hd1.good
      have HCN : Hid (fu.count < 1000000) := Lib.hid (by omega)
      have HLN : Hid (s.opn.length < 1000000) := Lib.hid (by have := hj.few; omega)
      clear hd1 hd2 hd3 hpq hpr hqr hj hfa hcn hbl
      go_wp2_with fail
      refine (flush_D HD1.out HCN.out HLN.out).mono ?_
      rintro e wa ⟨rfl, hd, hk⟩
      rw [show fstate s fu = s.flush by simp [fstate, free_ok' HFA.out]] at hd
      obtain ⟨fc, hfc⟩ : ∃ x, x = fcode fu := ⟨_, rfl⟩
      rw [← hfc]
      have HA1 := Lib.hid hd
      have HA2 := Lib.hid (HD2.out.kept hk fun k h2 h1 => HPQ.out k h1 h2)
      have HA3 := Lib.hid (HD3.out.kept hk fun k h3 h1 => HPR.out k h1 h3)
      have HBa := Lib.hid (HBL.out.trans (hk.below (fun k hk => (HD1.out.lt k hk).1) HBL.out.size))
      clear hd hk hfc HD1 HD2 HD3
      go_wp2_with fail
      refine (crash_D 18446744073709551615 128 (by decide) HA2.out HLN.out).mono ?_
      rintro e wb ⟨rfl, hd, hk⟩
      have HE1 := Lib.hid (HA1.out.kept hk fun k h1 h2 => HPQ.out k h1 h2)
      have HE2 := Lib.hid hd
      have HE3 := Lib.hid (HA3.out.kept hk fun k h3 h2 => HQR.out k h2 h3)
      have HBb := Lib.hid (HBa.out.trans (hk.below (fun k hk => (HA2.out.lt k hk).1) HBa.out.size))
      clear hd hk HA1 HA2 HA3
      go_wp2_with fail
      refine (crash_zero 128 HE3.out HLN.out).mono ?_
      rintro e wc ⟨rfl, hd, hk⟩
      have HG1 := Lib.hid (HE1.out.kept hk fun k h1 h3 => HPR.out k h1 h3)
      have HG2 := Lib.hid (HE2.out.kept hk fun k h2 h3 => HQR.out k h2 h3)
      have HG3 := Lib.hid hd
      have HBc := Lib.hid (HBb.out.trans (hk.below (fun k hk => (HE3.out.lt k hk).1) HBb.out.size))
      have HSG : Hid s.Good := HE0
      clear hd hk HE1 HE2 HE3
      obtain ⟨z, hz⟩ : ∃ z, z = same 0 128 := ⟨_, rfl⟩
      have HZ := Lib.hid hz
      clear hz
      go_wp2
      go_loopg [91] 8 (fun g' i wr => ∃ k : Nat, Hid (g' = 8 - k) ∧ k ≤ 8 ∧ i = .int .i64 k ∧ Hid (Below w.heap.size w wr ∧ Below wc.heap.size wc wr))
      case atStart => exact ⟨0, Lib.hid rfl, Nat.zero_le _, rfl, Lib.hid ⟨HBc.out, Below.refl _ _⟩⟩
      case round =>
        obtain ⟨k, HK', hk8, rfl, HW⟩ := hrel
        have HI1 := Lib.hid (HG1.out.under HW.out.2)
        have HI2 := Lib.hid (HG2.out.under HW.out.2)
        have HI3 := Lib.hid (HG3.out.under HW.out.2)
        by_cases hlt8 : k < 8
        · have hlt8' : (k : Int) < 8 := by omega
          go_wp2_with fail
          refine (read_D k HI1.out).mono ?_
          rintro e w' ⟨rfl, rfl⟩
          obtain ⟨x, hx⟩ : ∃ x, x = rstr s.flush k := ⟨_, rfl⟩
          obtain ⟨xc, hxc⟩ : ∃ x, x = rcode s.flush k := ⟨_, rfl⟩
          rw [← hx, ← hxc]
          have HX := Lib.hid hx
          clear hx hxc
          go_wp2_with fail
          refine (read_D k HI2.out).mono ?_
          rintro e w' ⟨rfl, rfl⟩
          rw [HJ.out.all HSG.out k, ← HX.out]
          obtain ⟨yc, hyc⟩ : ∃ x, x = rcode (s.crash 18446744073709551615 (cut 128 s.size)) k := ⟨_, rfl⟩
          rw [← hyc]
          clear hyc
          go_wp2_with fail
          refine (read_D k HI3.out).mono ?_
          rintro e w' ⟨rfl, rfl⟩
          rw [HJ.out.none (cut 128 s.size) k hlt8, ← HZ.out]
          obtain ⟨zc, hzc⟩ : ∃ x, x = rcode (s.crash 0 (cut 128 s.size)) k := ⟨_, rfl⟩
          rw [← hzc]
          clear hzc
          go_wp2_with fail
          refine (fill_zero _).mono ?_
          rintro e w9 ⟨rfl, hb9⟩
          rw [← HZ.out]
          have HW9 : Hid (Below w.heap.size w w9 ∧ Below wc.heap.size wc w9) := Lib.hid ⟨HW.out.1.trans (hb9.mono HW.out.1.size), HW.out.2.trans (hb9.mono HW.out.2.size)⟩
          clear hb9 HI1 HI2 HI3
          go_wp2
          go_roundg (8 - (k + 1))
          case measure => have := HK'.out; omega
          case rel => exact ⟨k + 1, Lib.hid rfl, by omega, by go_num, HW9⟩
        · obtain rfl : k = 8 := by omega
          go_wp2_with fail
          refine (open_D HI1.out).mono ?_
          rintro e w' ⟨rfl, rfl⟩
          rw [show s.flush.opn.length = 0 from rfl]
          go_wp2_with fail
          refine (open_D HI2.out).mono ?_
          rintro e w' ⟨rfl, rfl⟩
          rw [show (s.crash 18446744073709551615 (cut 128 s.size)).opn.length = 0 from rfl]
          go_wp2_with fail
          refine (open_D HI3.out).mono ?_
          rintro e w' ⟨rfl, rfl⟩
          rw [show (s.crash 0 (cut 128 s.size)).opn.length = 0 from rfl]
          go_wp2
          go_ret
          exact ⟨rfl, HW.out.1⟩

set_option maxRecDepth 20000 in
set_option maxHeartbeats 8000000 in
theorem walk_none (A : Option Addr) (cp : Nat) (w : World) : Calls Try.prog 5 #[.slice A 0 cp] w (Holds w) := by
  go_enter Try.func5, Try.ntmps5
  go_wp2_with fail
  refine (new_any _).mono ?_
  rintro e w1 ⟨f, rfl, hg, hz, hb⟩
  have HF1 := Lib.hid hz
  have HGF := Lib.hid hg
  have HB1 := Lib.hid hb
  clear hz hb hg
  go_wp2_with fail
  refine (new_any _).mono ?_
  rintro e w2 ⟨g, rfl, hg, hz, hb⟩
  have HF2 := Lib.hid (Fz.past HF1.out hb)
  have HG2 := Lib.hid hz
  have HFG : Hid (f < g) := Lib.hid (by rw [← hg]; exact HF1.out.lt)
  have HB2 := Lib.hid (HB1.out.trans (hb.mono HB1.out.size))
  clear hz hb hg HF1
  go_wp2_with fail
  refine (new_any _).mono ?_
  rintro e w3 ⟨h, rfl, hg, hz, hb⟩
  have HF3 := Lib.hid (Fz.past HF2.out hb)
  have HG3 := Lib.hid (Fz.past HG2.out hb)
  have HH3 := Lib.hid hz
  have HGH : Hid (g < h) := Lib.hid (by rw [← hg]; exact HG2.out.lt)
  have HB3 := Lib.hid (HB2.out.trans (hb.mono HB2.out.size))
  clear hz hb hg HF2 HG2
  go_wp2_with fail
  refine (awake_yes _).mono ?_
  rintro e w4 ⟨rfl, hb⟩
  have HF4 := Lib.hid (Fz.past HF3.out hb)
  have HG4 := Lib.hid (Fz.past HG3.out hb)
  have HH4 := Lib.hid (Fz.past HH3.out hb)
  have HB4 := Lib.hid (HB3.out.trans (hb.mono HB3.out.size))
  clear hb HF3 HG3 HH3
  go_wp2_with fail
  refine (new_D (B := w.heap.size) 128 8 128 8 (by decide) (by decide) HF4.out new_good (Nat.le_of_eq HGF.out) HB4.out.size).mono ?_
  rintro e w5 ⟨a, P, rfl, hd, hb, hp⟩
  have HA5 := Lib.hid hd
  have HP5 := Lib.hid hp
  have HG5 := Lib.hid (Fz.past HG4.out hb)
  have HH5 := Lib.hid (Fz.past HH4.out hb)
  have HB5 := Lib.hid (HB4.out.trans (hb.mono HB4.out.size))
  have HS5 := Lib.hid hb.size
  clear hd hp hb
  go_wp2_with fail
  refine (new_D (B := w.heap.size) 128 8 128 8 (by decide) (by decide) HG5.out new_good (Nat.le_trans (Nat.le_of_eq HGF.out) (Nat.le_of_lt HFG.out)) HB5.out.size).mono ?_
  rintro e w6 ⟨b', Q, rfl, hd, hb, hp⟩
  have HA6 := Lib.hid (HA5.out.under hb)
  have HQ6 := Lib.hid hp
  have HD6 := Lib.hid hd
  have HH6 := Lib.hid (Fz.past HH5.out hb)
  have HB6 := Lib.hid (HB5.out.trans (hb.mono HB5.out.size))
  have HS6 := Lib.hid hb.size
  clear hd hp hb
  go_wp2_with fail
  refine (new_D (B := w.heap.size) 128 8 128 8 (by decide) (by decide) HH6.out new_good (Nat.le_trans (Nat.le_of_eq HGF.out) (Nat.le_of_lt (Nat.lt_trans HFG.out HGH.out))) HB6.out.size).mono ?_
  rintro e w7 ⟨c, R, rfl, hd, hb, hp⟩
  have HB7 := Lib.hid (HB6.out.trans (hb.mono HB6.out.size))
  have HR : Hid (Loop w w7 a b' c f g h 0) := by
    refine Lib.hid ⟨P, Q, R, _, _, HA6.out.under hb, HD6.out.under hb, hd, fun k h1 h2 => ?_, fun k h1 h2 => ?_, fun k h1 h2 => ?_, J.start, rfl, by decide, HB7.out⟩
    · have a1 := HP5.out k h1
      have a2 := HQ6.out k h2
      have a3 := (HA5.out.lt k h1).2
      have a4 := HG4.out.lt
      have a5 := HFG.out
      omega
    · have a1 := HP5.out k h1
      have a2 := hp k h2
      have a3 := (HA5.out.lt k h1).2
      have a4 := HH4.out.lt
      have a5 := HFG.out
      have a6 := HGH.out
      have a7 := HS6.out
      omega
    · have a1 := HQ6.out k h1
      have a2 := hp k h2
      have a3 := (HD6.out.lt k h1).2
      have a4 := HH5.out.lt
      have a5 := HGH.out
      omega
  clear hd hp hb HA5 HP5 HG5 HH5 HB5 HS5 HA6 HQ6 HD6 HH6 HB6 HS6 HB7 HF4 HG4 HH4 HB1 HB2 HB3 HB4
  go_wp2
  refine wp_loop_rounds 1 ?_
  rw [rounds_succ]
  obtain ⟨K, hK⟩ : ∃ K : Nat, K = 0 := ⟨_, rfl⟩
  have hK60 : K ≤ 60 := by omega
  rw [← hK] at HR
  clear hK
  obtain ⟨P, Q, R, s, fu, hd1, hd2, hd3, hpq, hpr, hqr, hj, hfa, hcn, hbl⟩ := HR.out
  clear HR
  have HD1 := Lib.hid hd1
  have HD2 := Lib.hid hd2
  have HD3 := Lib.hid hd3
  have HPQ := Lib.hid hpq
  have HPR := Lib.hid hpr
  have HQR := Lib.hid hqr
  have HJ := Lib.hid hj
  have HFA := Lib.hid hfa
  have HBL := Lib.hid hbl
  have HE0 := Lib.hid hd1.good
  have HCN : Hid (fu.count < 1000000) := Lib.hid (by omega)
  have HLN : Hid (s.opn.length < 1000000) := Lib.hid (by have := hj.few; omega)
  clear hd1 hd2 hd3 hpq hpr hqr hj hfa hcn hbl
  go_wp2_with fail
  refine (flush_D HD1.out HCN.out HLN.out).mono ?_
  rintro e wa ⟨rfl, hd, hk⟩
  rw [show fstate s fu = s.flush by simp [fstate, free_ok' HFA.out]] at hd
  obtain ⟨fc, hfc⟩ : ∃ x, x = fcode fu := ⟨_, rfl⟩
  rw [← hfc]
  have HA1 := Lib.hid hd
  have HA2 := Lib.hid (HD2.out.kept hk fun k h2 h1 => HPQ.out k h1 h2)
  have HA3 := Lib.hid (HD3.out.kept hk fun k h3 h1 => HPR.out k h1 h3)
  have HBa := Lib.hid (HBL.out.trans (hk.below (fun k hk => (HD1.out.lt k hk).1) HBL.out.size))
  clear hd hk hfc HD1 HD2 HD3
  go_wp2_with fail
  refine (crash_D 18446744073709551615 128 (by decide) HA2.out HLN.out).mono ?_
  rintro e wb ⟨rfl, hd, hk⟩
  have HE1 := Lib.hid (HA1.out.kept hk fun k h1 h2 => HPQ.out k h1 h2)
  have HE2 := Lib.hid hd
  have HE3 := Lib.hid (HA3.out.kept hk fun k h3 h2 => HQR.out k h2 h3)
  have HBb := Lib.hid (HBa.out.trans (hk.below (fun k hk => (HA2.out.lt k hk).1) HBa.out.size))
  clear hd hk HA1 HA2 HA3
  go_wp2_with fail
  refine (crash_zero 128 HE3.out HLN.out).mono ?_
  rintro e wc ⟨rfl, hd, hk⟩
  have HG1 := Lib.hid (HE1.out.kept hk fun k h1 h3 => HPR.out k h1 h3)
  have HG2 := Lib.hid (HE2.out.kept hk fun k h2 h3 => HQR.out k h2 h3)
  have HG3 := Lib.hid hd
  have HBc := Lib.hid (HBb.out.trans (hk.below (fun k hk => (HE3.out.lt k hk).1) HBb.out.size))
  have HSG : Hid s.Good := HE0
  clear hd hk HE1 HE2 HE3
  obtain ⟨z, hz⟩ : ∃ z, z = same 0 128 := ⟨_, rfl⟩
  have HZ := Lib.hid hz
  clear hz
  go_wp2
  go_loopg [91] 8 (fun g' i wr => ∃ k : Nat, Hid (g' = 8 - k) ∧ k ≤ 8 ∧ i = .int .i64 k ∧ Hid (Below w.heap.size w wr ∧ Below wc.heap.size wc wr))
  case atStart => exact ⟨0, Lib.hid rfl, Nat.zero_le _, rfl, Lib.hid ⟨HBc.out, Below.refl _ _⟩⟩
  case round =>
    obtain ⟨k, HK', hk8, rfl, HW⟩ := hrel
    have HI1 := Lib.hid (HG1.out.under HW.out.2)
    have HI2 := Lib.hid (HG2.out.under HW.out.2)
    have HI3 := Lib.hid (HG3.out.under HW.out.2)
    by_cases hlt8 : k < 8
    · have hlt8' : (k : Int) < 8 := by omega
      go_wp2_with fail
      refine (read_D k HI1.out).mono ?_
      rintro e w' ⟨rfl, rfl⟩
      obtain ⟨x, hx⟩ : ∃ x, x = rstr s.flush k := ⟨_, rfl⟩
      obtain ⟨xc, hxc⟩ : ∃ x, x = rcode s.flush k := ⟨_, rfl⟩
      rw [← hx, ← hxc]
      have HX := Lib.hid hx
      clear hx hxc
      go_wp2_with fail
      refine (read_D k HI2.out).mono ?_
      rintro e w' ⟨rfl, rfl⟩
      rw [HJ.out.all HSG.out k, ← HX.out]
      obtain ⟨yc, hyc⟩ : ∃ x, x = rcode (s.crash 18446744073709551615 (cut 128 s.size)) k := ⟨_, rfl⟩
      rw [← hyc]
      clear hyc
      go_wp2_with fail
      refine (read_D k HI3.out).mono ?_
      rintro e w' ⟨rfl, rfl⟩
      rw [HJ.out.none (cut 128 s.size) k hlt8, ← HZ.out]
      obtain ⟨zc, hzc⟩ : ∃ x, x = rcode (s.crash 0 (cut 128 s.size)) k := ⟨_, rfl⟩
      rw [← hzc]
      clear hzc
      go_wp2_with fail
      refine (fill_zero _).mono ?_
      rintro e w9 ⟨rfl, hb9⟩
      rw [← HZ.out]
      have HW9 : Hid (Below w.heap.size w w9 ∧ Below wc.heap.size wc w9) := Lib.hid ⟨HW.out.1.trans (hb9.mono HW.out.1.size), HW.out.2.trans (hb9.mono HW.out.2.size)⟩
      clear hb9 HI1 HI2 HI3
      go_wp2
      go_roundg (8 - (k + 1))
      case measure => have := HK'.out; omega
      case rel => exact ⟨k + 1, Lib.hid rfl, by omega, by go_num, HW9⟩
    · obtain rfl : k = 8 := by omega
      go_wp2_with fail
      refine (open_D HI1.out).mono ?_
      rintro e w' ⟨rfl, rfl⟩
      rw [show s.flush.opn.length = 0 from rfl]
      go_wp2_with fail
      refine (open_D HI2.out).mono ?_
      rintro e w' ⟨rfl, rfl⟩
      rw [show (s.crash 18446744073709551615 (cut 128 s.size)).opn.length = 0 from rfl]
      go_wp2_with fail
      refine (open_D HI3.out).mono ?_
      rintro e w' ⟨rfl, rfl⟩
      rw [show (s.crash 0 (cut 128 s.size)).opn.length = 0 from rfl]
      go_wp2
      go_ret
      exact ⟨rfl, HW.out.1⟩

theorem walk (v : Value) (w : World) (h : Acts w v) : Calls Try.prog 5 #[v] w (Holds w) := by
  rcases h with ⟨A, cp, rfl⟩ | ⟨b, off, cp, xs, rfl, hx, h0, hb, hv⟩
  · exact walk_none A cp w
  · by_cases h5 : 60 < xs.length
    · exact walk_long xs.length cp _ w h5 hx
    · exact walk_main b off cp xs w (by omega) h0 hb hv

/-! From the walk to the given row. -/
set_option maxRecDepth 100000 in
theorem lifted (os : Os) (started : os.Started) (H : Type) (enc : TypeId × Value → H) :
    ReturnsInHanded {} Try.checked os 5 .any (Rows.diskCrashesSpec.pre6 enc Try.prog Try.f5 Rows.diskCrashesRow.domain false) (Rows.diskCrashesSpec.post enc Try.prog Try.f5 false true false false) := by
  refine returnsInHanded_of_change (C := Try.checked) t_own started (by kernel_rfl) Try.func5
    (ChangeSpec.witness6 (enc := enc) (C := Try.checked) false ⟨#[], #[.slice none 0 0], []⟩ 8 (by kernel_rfl) (by kernel_rfl) (by kernel_rfl) (by kernel_rfl)) ?_
  intro W base args ds gs before hval0 hW hcnd _
  have hval : ∀ (j : Nat) t v, Try.f5.params[j]? = some t → args[j]? = some v → Value.okWide Try.prog W .any base t v := hval0
  have hW' := hW
  obtain ⟨p, q, hA0, hV, rfl, hfz, hnd⟩ := hW
  have hA : DataW.TrodAll enc Try.prog W 0 (fun _ => true) true Try.f5.params.toList args.toList ds p := hA0
  rw [Try.params5] at hA hval
  obtain ⟨v0, vs0, d0, ds0, p0, q0, hargs, rfl, rfl, h0, r0⟩ := trodAll_cons hA
  obtain ⟨rfl, rfl, rfl⟩ := trodAll_nil r0
  obtain rfl : args = #[v0] := by cases args; simp_all

  refine (walk v0 W (open_acts (hval 0 23 v0 rfl rfl) h0)).mono fun e W' ⟨he, hb⟩ => ?_
  subst he
  exact ⟨_, rfl, post_of_holds hW' (by kernel_rfl) rfl (by rw [Try.params5]; exact fun t ht => params_ok t (by simp at ht; rcases ht with rfl <;> simp)) ⟨rfl, rfl, rfl⟩ hb⟩

/-- The given statement. -/
theorem proved : Rows.DiskCrashesSaid :=
  OpenClaim.holds_of_wide 5 Try.f5 rfl rfl rfl rfl rfl rfl rfl ⟨rfl, rfl, rfl, rfl, rfl⟩ rfl rfl rfl rfl rfl (by kernel_rfl) Try.func5 (by kernel_rfl)
    (of_decide_eq_true (by kernel_rfl)) (by unfold Func.isWrapper; first | (rw [if_pos (by decide +kernel)]; kernel_rfl) | (rw [if_neg (by decide +kernel)]; exact ⟨rfl, rfl⟩))
    (fun os started H enc _ => lifted os started H enc)
#print axioms proved
end Go.Proofs.Ytffnalnceceinaa.diskCrashes
