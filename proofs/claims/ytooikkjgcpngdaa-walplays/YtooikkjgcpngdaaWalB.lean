/-
  The program's own log: a sector's record, the heads, the records behind a head; is a text too long?
-/
import Derived.Test.YtooikkjgcpngdaaWalA
import Derived.Deep.AppendLies
namespace Go.Proofs.Ytooikkjgcpngdaa
open Go.RowKit
open Fr (Rec secB valL lenV)

variable {P Q : Nat → Prop} {w w' : World} {B d f v : Nat} {fu : Fu} {s : Dk} {l : Lg}

theorem Dk.Good.atSz {s : Dk} (h : s.Good) {i : Nat} (hi : i < s.now.length) : (s.at i).size = s.size := by
  refine h.nows _ ?_
  rw [Dk.at, List.getD_eq_getElem?_getD, List.getElem?_eq_getElem hi]
  exact List.getElem_mem hi
theorem below_undrewN {n : Nat} (h : Below (w.drewN n).heap.size (w.drewN n) w') : Below w.heap.size w w' := ⟨h.os, h.tape, h.output, h.size, h.block⟩
theorem read_q (i : Nat) (h : WalP w B P d f s fu v l) (hi : i < s.now.length) (n : Nat) : Calls Try.prog 78 #[.pointer (some ⟨d, 0, none⟩), .int .i64 (i : Int)] (w.drewN n) fun e w'' => e = .returned (.tuple #[.string (s.at i), .int .i64 0]) ∧ ∃ k, w'' = w.drewN k := by
  have h1 := read_D (i : Int) (h.dsk.drewN n)
  have e1 : rstr s (i : Int) = s.at i := by
    unfold rstr Dk.at
    rw [if_neg (by omega)]
    rfl
  have e2 : rcode s (i : Int) = 0 := by unfold rcode; rw [if_neg (by omega)]
  rw [e1, e2] at h1
  exact Calls.quiet_of_same (h1.mono fun _ _ ⟨he, hw⟩ => ⟨he, hw.symm⟩)

set_option maxHeartbeats 1000000 in
theorem pget_yes (area place i g : Nat) (p : ByteArray) (h : WalP w B P d f s fu v l) (ha : area ≤ 1) (hp : place ≤ 1024) (hi : i = area * s.half + place) (hil : i < s.now.length) (hl : look (s.at i) = some (g, place, p)) :
    Calls Try.prog 57 #[.pointer (some ⟨v, 0, none⟩), .int .i64 (area : Int), .int .i64 (place : Int)] w fun e w' => e = .returned (.tuple #[.int .i64 (g : Int), .string p, .bool true]) ∧ Below w.heap.size w w' := by
  have c0 := h.log.c0
  have HS := Lib.hid (fun n => sector_q area place i h ha hp hi n)
  have HR := Lib.hid (fun n => read_q i h hil n)
  have HG := Lib.hid (fun W => get_some hl W)
  obtain ⟨b, hb⟩ : ∃ b, b = s.at i := ⟨_, rfl⟩
  rw [← hb] at HR HG
  clear hl hb hi hil h
  go_enter Try.func57, Try.ntmps57
  go_wp2
  go_quiet (first | (go_at_call 56; exact HS.out _) | (go_at_call 78; exact HR.out _))
  go_wp2_with fail
  refine (HG.out _).mono ?_
  rintro e w1 ⟨rfl, hb1⟩
  go_wp2
  go_ret3
  exact ⟨rfl, below_undrewN hb1⟩
set_option maxHeartbeats 1000000 in
theorem pget_no (area place i : Nat) (h : WalP w B P d f s fu v l) (ha : area ≤ 1) (hp : place ≤ 1024) (hi : i = area * s.half + place) (hil : i < s.now.length) (hl : ∀ g p, look (s.at i) ≠ some (g, place, p)) :
    Calls Try.prog 57 #[.pointer (some ⟨v, 0, none⟩), .int .i64 (area : Int), .int .i64 (place : Int)] w fun e w' => e = .returned (.tuple #[.int .i64 0, .string ⟨#[]⟩, .bool false]) ∧ Below w.heap.size w w' := by
  have c0 := h.log.c0
  have HS := Lib.hid (fun n => sector_q area place i h ha hp hi n)
  have HR := Lib.hid (fun n => read_q i h hil n)
  have hsz := h.dsk.good.sz
  have hbs := h.dsk.good.atSz hil
  obtain ⟨b, hb⟩ : ∃ b, b = s.at i := ⟨_, rfl⟩
  rw [← hb] at HR hl hbs
  cases hk : look b with
  | none =>
    have HG := Lib.hid (fun W => get_none hk W (by omega))
    clear hl hb hi hil h hk hbs hsz
    go_enter Try.func57, Try.ntmps57
    go_wp2
    go_quiet (first | (go_at_call 56; exact HS.out _) | (go_at_call 78; exact HR.out _))
    go_wp2_with fail
    refine (HG.out _).mono ?_
    rintro e w1 ⟨rfl, hb1⟩
    go_wp2
    go_ret3
    exact ⟨rfl, below_undrewN hb1⟩
  | some x =>
    obtain ⟨g, n, p⟩ := x
    have HG := Lib.hid (fun W => get_some hk W)
    have hne : n ≠ place := fun e => hl g p (by rw [hk, e])
    have e1 : ((n : Int) == (place : Int)) = false := by simp; omega
    have e2 : decide ((n : Int) = (place : Int)) = false := by simp; omega
    have e3 : decide (n = place) = false := by simpa using hne
    have e4 : (n == place) = false := by simpa using hne
    clear hl hb hi hil h hk hbs hsz hne
    go_enter Try.func57, Try.ntmps57
    go_wp2
    go_quiet (first | (go_at_call 56; exact HS.out _) | (go_at_call 78; exact HR.out _))
    go_wp2_with fail
    refine (HG.out _).mono ?_
    rintro e w1 ⟨rfl, hb1⟩
    go_wp2
    go_ret3
    exact ⟨rfl, below_undrewN hb1⟩

theorem head_str' (p : ByteArray) : (p.toList == [104, 101, 97, 100]) = decide (p = headT) := by
  have e : headT.toList = [104, 101, 97, 100] := by rw [ByteArray.toList_eq]; rfl
  by_cases h : p = headT
  · subst h; rw [e]; simp
  · rw [← e, Fr.str_ne h]; simp [h]

set_option maxHeartbeats 1000000 in
theorem phead_any (area i : Nat) (h : WalP w B P d f s fu v l) (ha : area ≤ 1) (hi : i = area * s.half) (hil : i < s.now.length) :
    Calls Try.prog 52 #[.pointer (some ⟨v, 0, none⟩), .int .i64 (area : Int)] w fun e w' => e = .returned (.int .i64 (headG (s.at i) : Int)) ∧ Below w.heap.size w w' := by
  by_cases hh : ∃ g p, look (s.at i) = some (g, 0, p)
  · obtain ⟨g, p, hl⟩ := hh
    have HG := Lib.hid (pget_yes area 0 i g p h ha (by omega) (by omega) hil hl)
    have HV : Hid (headG (s.at i) = if p = headT then g else 0) := Lib.hid (by unfold headG; rw [hl]; simp)
    have ep := head_str' p
    rw [HV.out]
    clear hl hi hil h
    by_cases h2 : p = headT
    · rw [decide_eq_true h2] at ep
      rw [if_pos h2]
      clear h2
      go_enter Try.func52, Try.ntmps52
      go_wp2_with fail
      refine HG.out.mono ?_
      rintro e w1 ⟨rfl, hb1⟩
      go_wp2
      go_ret
      exact ⟨rfl, hb1⟩
    · rw [decide_eq_false h2] at ep
      rw [if_neg h2]
      clear h2
      go_enter Try.func52, Try.ntmps52
      go_wp2_with fail
      refine HG.out.mono ?_
      rintro e w1 ⟨rfl, hb1⟩
      go_wp2
      go_ret
      exact ⟨rfl, hb1⟩
  · have hl : ∀ g p, look (s.at i) ≠ some (g, 0, p) := fun g p e => hh ⟨g, p, e⟩
    have HG := Lib.hid (pget_no area 0 i h ha (by omega) (by omega) hil hl)
    have HV : headG (s.at i) = 0 := by
      unfold headG
      split
      · rename_i g n p hk
        rw [if_neg]
        rintro ⟨rfl, _⟩
        exact hl g p hk
      · rfl
    rw [HV]
    clear hl hi hil h hh HV
    go_enter Try.func52, Try.ntmps52
    go_wp2_with fail
    refine HG.out.mono ?_
    rintro e w1 ⟨rfl, hb1⟩
    go_wp2
    go_ret
    exact ⟨rfl, hb1⟩
end Go.Proofs.Ytooikkjgcpngdaa
