/-
  What the document's own Put and Same answer.
-/
import Derived.Test.YthombepmlepgfaaDoorGet
import Derived.RegionTactic
import Derived.Deep.RegionWith
namespace Go.Proofs.YthombepmlepgfaaDoor
open Go.RowKit

def encB (n : Nat) : ByteArray := ⟨(enc n).toArray⟩
theorem encB_size (n : Nat) : (encB n).size = (enc n).length := by simp [encB, ByteArray.size]
theorem encB_high {n : Nat} (h : 128 ≤ n) : (⟨#[UInt8.ofNat (128 + n % 128)]⟩ : ByteArray) ++ encB (n / 128) = encB n := by
  apply ByteArray.ext
  rw [ByteArray.data_append, encB, encB, enc_high h]
  simp
theorem held_new {w w1 : World} {u : Value} {t : TypeId} (hb : Below ((w.alloc (.cells #[u] t)).drew).heap.size ((w.alloc (.cells #[u] t)).drew) w1) : w1.cell? ⟨w.heap.size, 0, none⟩ = some u := by
  have h1 := hb.cell (p := ⟨w.heap.size, 0, none⟩) (by simp)
  rw [h1]
  simp
theorem below_a {w w1 : World} {o : Obj} (hb : Below ((w.alloc o).drew).heap.size ((w.alloc o).drew) w1) : Below w.heap.size w w1 := by
  have h1 := ((Below.refl w.heap.size w).alloc (Nat.le_refl _) o).trans (⟨rfl, rfl, rfl, Nat.le_refl _, fun _ _ => rfl⟩ : Below w.heap.size (w.alloc o) (w.alloc o).drew)
  exact h1.trans (hb.mono h1.size)
theorem below_b {w w1 : World} (hb : Below w.drew.heap.size w.drew w1) (o : Obj) : Below w.heap.size w (w1.alloc o) :=
  Below.alloc (⟨hb.os, hb.tape, hb.output, hb.size, hb.block⟩ : Below w.heap.size w w1) hb.size o
theorem conv_one {W : World} {b : Nat} (c : UInt8) (h : W.cell? ⟨b, 0, none⟩ = some (.int .u8 (c.toNat : Int))) : (convert 68 9 (.slice (some ⟨b, 0, none⟩) 1 1)).run Tryd.prog W = .ok (.string ⟨#[c]⟩) W := by
  refine run_convert_bytes_back (P := Tryd.prog) W 68 9 5 ⟨b, 0, none⟩ 1 [c] Tryd.underlying68 Tryd.underlying5 Tryd.underlying9 (fun j hj => ?_)
  obtain rfl : j = 0 := by simpa using hj
  simpa [Addr.add] using h

set_option maxRecDepth 100000 in
set_option maxHeartbeats 1000000 in
theorem one_low (n : Nat) (w : World) (hn : n < 128) :
    Calls Tryd.prog 31 #[.int .i64 (n : Int)] w fun e w' => e = .returned (.string (encB n)) ∧ Below w.heap.size w w' := by
  have hc := conv_one (W := w.alloc (.cells #[.int .u8 (n : Int)] 5)) (b := w.heap.size) (UInt8.ofNat n) (by rw [byte_low hn]; simp)
  have HE : Hid (encB n = ⟨#[UInt8.ofNat n]⟩) := Lib.hid (by rw [encB, enc_low hn])
  go_enter Tryd.func31, Tryd.ntmps31
  go_wp2
  go_ret
  exact ⟨by rw [HE.out]; rfl, (Below.refl _ _).alloc (Nat.le_refl _) _⟩

set_option maxRecDepth 100000 in
set_option maxHeartbeats 2000000 in
theorem one_any (n : Nat) : ∀ (w : World), n < 9223372036854775808 →
    Calls Tryd.prog 31 #[.int .i64 (n : Int)] w fun e w' => e = .returned (.string (encB n)) ∧ Below w.heap.size w w' := by
  induction n using Nat.strongRecOn with
  | _ n ih =>
    intro w hn
    by_cases hlt : n < 128
    · exact one_low n w hlt
    · have HI : Hid (∀ W, Calls Tryd.prog 31 #[.int .i64 ((n : Int) / 128)] W fun e w' => e = .returned (.string (encB (n / 128))) ∧ Below W.heap.size W w') := Lib.hid (fun W => by
        have h1 := ih (n / 128) (by omega) W (by omega)
        rw [show ((n / 128 : Nat) : Int) = (n : Int) / 128 by omega] at h1
        exact h1)
      obtain ⟨y, hy⟩ : ∃ y, y = encB (n / 128) := ⟨_, rfl⟩
      obtain ⟨x, hx⟩ : ∃ x : ByteArray, x = ⟨#[UInt8.ofNat (128 + n % 128)]⟩ := ⟨_, rfl⟩
      have hys : y.size ≤ 9 := by rw [hy, encB_size]; exact enc_nine (by omega)
      have hxs : x.size = 1 := by rw [hx]; rfl
      rw [← hy] at HI
      have HE : Hid (x ++ y = encB n) := Lib.hid (by rw [hx, hy]; exact encB_high (by omega))
      obtain ⟨m, hm⟩ : ∃ m : Int, m = (n : Int) % 128 := ⟨_, rfl⟩
      obtain ⟨q, hq⟩ : ∃ q : Int, q = 128 + (n : Int) % 128 := ⟨_, rfl⟩
      obtain ⟨d, hd⟩ : ∃ d : Int, d = (n : Int) / 128 := ⟨_, rfl⟩
      have t1 : (n : Int).tmod 128 = m := by rw [hm, Int.tmod_eq_emod_of_nonneg (by omega)]
      have t2 : (n : Int).tdiv 128 = d := by rw [hd, Int.tdiv_eq_ediv_of_nonneg (by omega)]
      have t3 : IntKind.i64.wrap (128 + m) = q := by rw [hm, hq]; exact IntWalk.i64_in _ (by omega)
      have t4 : IntKind.u8.wrap q = q := by rw [hq, IntKind.wrap_u8]; omega
      have t5 : IntKind.i64.wrap d = d := IntWalk.i64_in _ (by omega)
      rw [← hd] at HI
      have hconv : ∀ (W : World) (b : Nat), W.cell? ⟨b, 0, none⟩ = some (.int .u8 q) → (convert 68 9 (.slice (some ⟨b, 0, none⟩) 1 1)).run Tryd.prog W = .ok (.string x) W := by
        intro W b h
        rw [hx]
        exact conv_one _ (by rw [h, byte_high]; exact congrArg some (int_eq (by rw [hq]; omega)))
      clear ih hx hy hm hq hd
      go_enter Tryd.func31, Tryd.ntmps31
      go_wp2
      go_region_with (go_at_call 31; refine (HI.out _).mono ?_; rintro e w1 ⟨rfl, hb1⟩; first | (have hcw := held_new hb1) | skip)
      all_goals
        go_wp2
        go_ret
        refine ⟨by rw [← HE.out]; rfl, ?_⟩
        first | exact below_a hb1 | exact below_b hb1 _

theorem encB_join (ns : List Nat) (n : Nat) : (⟨(encs ns).toArray⟩ : ByteArray) ++ encB n = ⟨(encs (ns ++ [n])).toArray⟩ := by
  apply ByteArray.ext
  rw [ByteArray.data_append, encB, encs_snoc]
  simp

set_option maxRecDepth 100000 in
set_option maxHeartbeats 1000000 in
theorem mput_any (xs : List Int) (v : Value) (w : World) (hl : xs.length ≤ 1000) (hx : FitsAll xs) (hv : Vals w v (ints xs)) :
    Calls Tryd.prog 24 #[v] w fun e w' => e = .returned (.tuple #[.string (putS xs), .bool (putOk xs)]) ∧ Below w.heap.size w w' := by
  have hA : ∃ A c, v = .slice A xs.length c := by
    obtain ⟨A, c, h⟩ := hv.slice
    exact ⟨A, c, by rw [h, ints_len]⟩
  obtain ⟨A, c, rfl⟩ := hA
  have HV := Lib.hid hv
  have HX := Lib.hid hx
  clear hv hx
  go_enter Tryd.func24, Tryd.ntmps24
  go_wp2
  go_loopg [4, 5] xs.length (fun g b i wr => ∃ (k : Nat) (t : ByteArray), Hid (g = xs.length - k) ∧ k ≤ xs.length ∧ i = .int .i64 k ∧ b = .string t ∧ Hid (t = ⟨(encs (nats (xs.take k))).toArray⟩) ∧ t.size ≤ 9000 ∧ Hid (∀ j (hj : j < xs.length), j < k → 0 ≤ xs[j]) ∧ Hid (Below w.heap.size w wr))
  case atStart => exact ⟨0, ⟨#[]⟩, Lib.hid rfl, Nat.zero_le _, rfl, rfl, Lib.hid rfl, by simp [ByteArray.size], Lib.hid (fun j _ h => by omega), Lib.hid (Below.refl _ _)⟩
  case round =>
    obtain ⟨k, t, HG, hk, rfl, rfl, HT, ht, HP, HBL⟩ := hrel
    by_cases hlt : k < xs.length
    · obtain ⟨b, off, c', hve, hcc, hb, hxx⟩ := HV.out.full (by rw [ints_len]; omega)
      obtain rfl : A = some ⟨b, off, none⟩ := by injection hve
      have cj : wr.cell? ⟨b, off + k, none⟩ = some (.int .i64 xs[k]) := (HBL.out.cell (p := ⟨b, off + k, none⟩) hb).trans (hxx k _ (ints_at xs k hlt))
      have hfit := HX.out xs[k] (List.getElem_mem hlt)
      unfold Fits at hfit
      clear hve hcc hxx
      by_cases hneg : xs[k] < 0
      · have HE := Lib.hid (putOk_no k hlt hneg)
        go_wp2
        go_ret2
        exact ⟨by unfold putS; rw [HE.out]; rfl, HBL.out⟩
      · obtain ⟨n, hn⟩ : ∃ n : Nat, xs[k] = (n : Int) := ⟨xs[k].toNat, by omega⟩
        have HNX := Lib.hid hn
        rw [hn] at cj hfit hneg
        have HA : Hid (∀ W, Calls Tryd.prog 31 #[.int .i64 (n : Int)] W fun e w' => e = .returned (.string (encB n)) ∧ Below W.heap.size W w') := Lib.hid (fun W => one_any n W (by omega))
        have HJ : Hid (t ++ encB n = ⟨(encs (nats (xs.take (k + 1)))).toArray⟩) := Lib.hid (by
          rw [nats_snoc xs k hlt, HNX.out, Int.toNat_natCast, HT.out, encB_join])
        obtain ⟨y, hy⟩ : ∃ y, y = encB n := ⟨_, rfl⟩
        have hys : y.size ≤ 9 := by rw [hy, encB_size]; exact enc_nine (by omega)
        rw [← hy] at HA HJ
        clear hn hy
        go_wp2_with fail
        refine (HA.out _).mono ?_
        rintro e w1 ⟨rfl, hbw⟩
        have HB1 := Lib.hid (HBL.out.trans (hbw.mono HBL.out.size))
        clear hbw cj
        go_wp2
        go_roundg (xs.length - (k + 1))
        case measure => have := HG.out; omega
        case rel =>
          have h9 := (encs_len (ns := nats (xs.take (k + 1))) (nats_small fun x hx => HX.out x (List.mem_of_mem_take hx))).2
          rw [nats_len, List.length_take] at h9
          refine ⟨k + 1, t ++ y, Lib.hid rfl, by omega, by go_num, rfl, HJ, by rw [HJ.out]; simp [ByteArray.size]; omega, Lib.hid (fun j hj h => ?_), HB1⟩
          rcases (by omega : j < k ∨ j = k) with h | rfl
          · exact HP.out j hj h
          · rw [HNX.out]; omega
    · obtain rfl : k = xs.length := by omega
      have HE : Hid (putOk xs = true) := Lib.hid (putOk_yes fun j hj => HP.out j hj hj)
      have HT2 : Hid (t = ⟨(encs (nats xs)).toArray⟩) := Lib.hid (by have := HT.out; rw [List.take_length] at this; exact this)
      go_wp2
      go_ret2
      exact ⟨by unfold putS; rw [HE.out, ← HT2.out]; rfl, HBL.out⟩

/-- Are two lists one? -/
def sameB (xs ys : List Int) : Bool := decide (xs = ys)

end Go.Proofs.YthombepmlepgfaaDoor
