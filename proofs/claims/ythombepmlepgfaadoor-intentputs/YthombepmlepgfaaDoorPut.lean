/-
  What package code's appendNumber and Put answer.
-/
import Derived.Test.YthombepmlepgfaaDoorMem
namespace Go.Proofs.YthombepmlepgfaaDoor
open Go.RowKit

/-- A row of bytes, one more behind. -/
def Bow (B : Nat) (w : World) (bs : List UInt8) (e : Ending) (w' : World) : Prop := ∃ u, e = .returned u ∧ w'.ownsRow B 5 1 u bs.length (bys bs) ∧ Below B w w'

theorem or_more (n : Nat) : bits .or .i64 128 ((n : Int) % 128) = ((128 + n % 128 : Nat) : Int) := by
  have e : ((n : Int) % 128) = ((n % 128 : Nat) : Int) := by omega
  rw [e, show (128 : Int) = ((128 : Nat) : Int) from rfl, i64_or_nat _ _ (by omega) (by omega)]
  have := Nat.two_pow_add_eq_or_of_lt (i := 7) (b := n % 128) (by omega) 1
  rw [show (2 : Nat) ^ 7 * 1 = 128 from rfl] at this
  rw [← this]
theorem byte_more (n : Nat) : Value.int .u8 (((128 + n % 128 : Nat) : Int) % 256) = byteV (UInt8.ofNat (128 + n % 128)) := by
  unfold byteV
  rw [byte_high]
  exact int_eq (by omega)
theorem byte_last {n : Nat} (h : n < 128) : Value.int .u8 (n : Int) = byteV (UInt8.ofNat n) := by
  unfold byteV
  rw [byte_low h]

set_option maxRecDepth 100000 in
set_option maxHeartbeats 1000000 in
theorem app_any (u : Value) (bs : List UInt8) (n B : Nat) (w : World) (hn : n < 9223372036854775808) (hl : bs.length ≤ 100000) (hB : B ≤ w.heap.size) (hown : w.ownsRow B 5 1 u bs.length (bys bs)) :
    Calls Tryd.prog 28 #[u, .int .i64 (n : Int)] w (Bow B w (bs ++ enc n)) := by
  obtain ⟨i5, hi5, hz50, hz51, hz52⟩ := info_parts Tinfo5
  have HO := Lib.hid hown
  have HN := Lib.hid hn
  clear hown hn
  go_enter Tryd.func28, Tryd.ntmps28
  go_wp2
  go_loopg [0, 1] n (fun g v x wr => ∃ (q L : Nat) (ac : List UInt8), Hid (g = q) ∧ q ≤ 9223372036854775807 ∧ L ≤ 100009 ∧ x = .int .i64 (q : Int) ∧ Hid (ac.length = L) ∧ Hid (ac ++ enc q = bs ++ enc n) ∧ Hid (wr.ownsRow B 5 1 v L (bys ac)) ∧ Hid (Below B w wr))
  case atStart => exact ⟨n, bs.length, bs, Lib.hid rfl, by have := HN.out; omega, by omega, rfl, Lib.hid rfl, Lib.hid rfl, HO, Lib.hid (Below.refl _ _)⟩
  case round =>
    obtain ⟨q, L, ac, HG, hq, hL, rfl, HL, HA, HOW, HBL⟩ := hrel
    by_cases hlt : q < 128
    · go_wp2_with (at_builtin; go_must (refine wpList_append_own _ rfl (.tmp 16) (.tmp 19) 68 rfl B 5 i5 (.int .u8 0) 1 1 Tryd.underlying68 hi5 hz50 hz51 hz52 rfl (by decide) _ L (bys ac) rfl (HOW.out.alloc _) ⟨wr.heap.size, 0, none⟩ 1 1 [_] rfl rfl (cell_one_new _ _ _) (by simp [Value.oneCell']) (by unfold maxLen; omega) (by omega) (by have := HBL.out.size; simp; omega) ?_); intro v3 w3 hown3 hgr3 _; have HOW3 := Lib.hid hown3; have HB3 := Lib.hid (below_grown (HBL.out.alloc (by have := HBL.out.size; omega) _) hgr3 (fun k hk => (own_lt HOW.out k hk).1) hB); clear hown3 hgr3)
      go_ret
      refine ⟨_, rfl, ?_, HB3.out⟩
      have h1 := HOW3.out
      rw [byte_last hlt] at h1
      rw [← HA.out, enc_low hlt, List.length_append, HL.out, bys_snoc]
      exact h1
    · go_wp2_with (at_builtin; go_must (refine wpList_append_own _ rfl (.tmp 7) (.tmp 12) 68 rfl B 5 i5 (.int .u8 0) 1 1 Tryd.underlying68 hi5 hz50 hz51 hz52 rfl (by decide) _ L (bys ac) rfl (HOW.out.alloc _) ⟨wr.heap.size, 0, none⟩ 1 1 [_] rfl rfl (cell_one_new _ _ _) (by simp [Value.oneCell']) (by unfold maxLen; omega) (by omega) (by have := HBL.out.size; simp; omega) ?_); intro v3 w3 hown3 hgr3 _; have HOW3 := Lib.hid hown3; have HB3 := Lib.hid (below_grown (HBL.out.alloc (by have := HBL.out.size; omega) _) hgr3 (fun k hk => (own_lt HOW.out k hk).1) hB); clear hown3 hgr3)
      go_roundg (q / 128)
      case measure => have := HG.out; omega
      case rel =>
        have hlen := congrArg List.length HA.out
        rw [List.length_append, List.length_append, HL.out] at hlen
        have h9 := enc_nine HN.out
        have hp := enc_pos q
        have e1 : enc q = UInt8.ofNat (128 + q % 128) :: enc (q / 128) := enc_high (by omega)
        have hp2 := enc_pos (q / 128)
        rw [e1, List.length_cons] at hlen
        refine ⟨q / 128, L + 1, ac ++ [UInt8.ofNat (128 + q % 128)], Lib.hid rfl, by omega, by omega, by go_num, Lib.hid (by simp [HL.out]), Lib.hid ?_, Lib.hid ?_, HB3⟩
        · rw [← HA.out, e1]; simp
        · have h1 := HOW3.out
          rw [or_more, byte_more] at h1
          rw [bys_snoc]
          exact h1

/-- What Put answers. -/
def putOk (xs : List Int) : Bool := xs.all fun x => decide (0 ≤ x)
def nats (xs : List Int) : List Nat := xs.map Int.toNat
def putS (xs : List Int) : ByteArray := if putOk xs then ⟨(encs (nats xs)).toArray⟩ else ⟨#[]⟩
/-- Is an int's number one that an int can be? -/
def Fits (a : Int) : Prop := -9223372036854775808 ≤ a ∧ a ≤ 9223372036854775807
def FitsAll (xs : List Int) : Prop := ∀ x ∈ xs, Fits x
theorem nats_small {xs : List Int} (h : FitsAll xs) : Small (nats xs) := by
  intro n hn
  obtain ⟨x, hx, rfl⟩ := List.mem_map.1 hn
  have := h x hx
  unfold Fits at this
  omega
theorem nats_len (xs : List Int) : (nats xs).length = xs.length := List.length_map _
theorem putOk_no {xs : List Int} (k : Nat) (h : k < xs.length) (hx : xs[k] < 0) : putOk xs = false := by
  unfold putOk
  rw [List.all_eq_false]
  exact ⟨xs[k], List.getElem_mem h, by simp; omega⟩
theorem putOk_yes {xs : List Int} (h : ∀ k (hk : k < xs.length), 0 ≤ xs[k]) : putOk xs = true := by
  unfold putOk
  rw [List.all_eq_true]
  intro x hx
  obtain ⟨k, hk, rfl⟩ := List.getElem_of_mem hx
  simpa using h k hk
theorem nats_snoc (xs : List Int) (k : Nat) (h : k < xs.length) : nats (xs.take (k + 1)) = nats (xs.take k) ++ [xs[k].toNat] := by
  unfold nats
  rw [List.take_succ_eq_append_getElem h, List.map_append]
  rfl

set_option maxRecDepth 100000 in
set_option maxHeartbeats 1000000 in
theorem put_any (xs : List Int) (v : Value) (w : World) (hl : xs.length ≤ 1000) (hx : FitsAll xs) (hv : Vals w v (ints xs)) :
    Calls Tryd.prog 19 #[v] w fun e w' => e = .returned (.tuple #[.string (putS xs), .bool (putOk xs)]) ∧ Below w.heap.size w w' := by
  have hA : ∃ A c, v = .slice A xs.length c := by
    obtain ⟨A, c, h⟩ := hv.slice
    exact ⟨A, c, by rw [h, ints_len]⟩
  obtain ⟨A, c, rfl⟩ := hA
  have HV := Lib.hid hv
  have HX := Lib.hid hx
  clear hv hx
  go_enter Tryd.func19, Tryd.ntmps19
  go_wp2
  go_loopg [4, 9] xs.length (fun g b i wr => ∃ (k L : Nat), Hid (g = xs.length - k) ∧ k ≤ xs.length ∧ i = .int .i64 k ∧ Hid ((encs (nats (xs.take k))).length = L) ∧ L ≤ 9000 ∧ Hid (∀ j (hj : j < xs.length), j < k → 0 ≤ xs[j]) ∧ Hid (wr.ownsRow w.heap.size 5 1 b L (bys (encs (nats (xs.take k))))) ∧ Hid (Below w.heap.size w wr))
  case atStart => exact ⟨0, 0, Lib.hid rfl, Nat.zero_le _, rfl, Lib.hid rfl, by omega, Lib.hid (fun j _ h => by omega), Lib.hid (World.ownsRow_nil _ _ _ _), Lib.hid (Below.refl _ _)⟩
  case round =>
    obtain ⟨k, L, HG, hk, rfl, HL, hL, HP, HOW, HBL⟩ := hrel
    by_cases hlt : k < xs.length
    · obtain ⟨b, off, c', hve, hcc, hb, hxx⟩ := HV.out.full (by rw [ints_len]; omega)
      obtain rfl : A = some ⟨b, off, none⟩ := by injection hve
      have cj : wr.cell? ⟨b, off + k, none⟩ = some (.int .i64 xs[k]) := (HBL.out.cell (p := ⟨b, off + k, none⟩) hb).trans (hxx k _ (ints_at xs k hlt))
      have hfit := HX.out xs[k] (List.getElem_mem hlt)
      unfold Fits at hfit
      clear hve hcc hxx
      by_cases hneg : xs[k] < 0
      · have HE := Lib.hid (putOk_no k hlt hneg)
        go_wp2
        go_ret2
        exact ⟨by unfold putS; rw [HE.out]; rfl, HBL.out⟩
      · obtain ⟨n, hn⟩ : ∃ n : Nat, xs[k] = (n : Int) := ⟨xs[k].toNat, by omega⟩
        have HNX := Lib.hid hn
        rw [hn] at cj hfit hneg
        have HA : Hid (∀ u W, W.ownsRow w.heap.size 5 1 u L (bys (encs (nats (xs.take k)))) → w.heap.size ≤ W.heap.size → Calls Tryd.prog 28 #[u, .int .i64 (n : Int)] W (Bow w.heap.size W (encs (nats (xs.take (k + 1)))))) := Lib.hid (fun u W hW hs => by
          have h1 := app_any u (encs (nats (xs.take k))) n w.heap.size W (by omega) (by rw [HL.out]; omega) hs (by rw [HL.out]; exact hW)
          rw [nats_snoc xs k hlt, encs_snoc, HNX.out, Int.toNat_natCast]
          exact h1)
        clear hn
        go_wp2_with fail
        refine (HA.out _ _ HOW.out HBL.out.size).mono ?_
        rintro e w1 ⟨u, rfl, hown, hbw⟩
        have HOW1 := Lib.hid hown
        have HB1 := Lib.hid (HBL.out.trans hbw)
        clear hown hbw cj
        go_wp2
        go_roundg (xs.length - (k + 1))
        case measure => have := HG.out; omega
        case rel =>
          have h9 := (encs_len (ns := nats (xs.take (k + 1))) (nats_small fun x hx => HX.out x (List.mem_of_mem_take hx))).2
          rw [nats_len, List.length_take] at h9
          refine ⟨k + 1, _, Lib.hid rfl, by omega, by go_num, Lib.hid rfl, by omega, Lib.hid (fun j hj h => ?_), HOW1, HB1⟩
          rcases (by omega : j < k ∨ j = k) with h | rfl
          · exact HP.out j hj h
          · rw [HNX.out]; omega
    · obtain rfl : k = xs.length := by omega
      have HE : Hid (putOk xs = true) := Lib.hid (putOk_yes fun j hj => HP.out j hj hj)
      have hc := conv_own HOW.out
      rw [List.take_length] at hc
      go_wp2
      go_ret2
      exact ⟨by unfold putS; rw [HE.out]; rfl, HBL.out⟩
end Go.Proofs.YthombepmlepgfaaDoor
