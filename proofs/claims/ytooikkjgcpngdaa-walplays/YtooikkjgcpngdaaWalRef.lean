/-
  The document's own log: how it lies in memory; head and lay.
-/
import Derived.Test.YtooikkjgcpngdaaWalLook
import Derived.Test.YtooikkjgcpngdaaRefE
namespace Go.Proofs.Ytooikkjgcpngdaa
open Go.RowKit
open Fr (Rec secB valL lenV)

variable {P Q R V : Nat → Prop} {w w' : World} {B m g v : Nat} {fu : Fu} {s : Dk} {l : Lg} {lv : Value}

/-- A sector that there is, where it lies. -/
theorem DskR.sector (h : DskR w B R m g s fu) (i : Nat) (hi : i < s.now.length) : ∃ k cap, w.cell? ⟨m, 2, none⟩ = some (.slice (some ⟨k, 0, none⟩) s.now.length cap) ∧ w.cell? ⟨k, i, none⟩ = some (.string (s.at i)) ∧ s.now.length ≤ cap := by
  obtain ⟨⟨_, nv, _, _, h, _⟩, _⟩ := h
  obtain ⟨k, cap, rfl⟩ := own_form h.on (by omega)
  refine ⟨k, cap, h.c2, own_str h.on rfl hi, ?_⟩
  rcases h.on.2 with ⟨hv, _⟩ | ⟨k', cap', cur, hv, _, _, hn, hc, _⟩
  · cases hv
  · cases hv
    omega

theorem Dk.Good.atSize {s : Dk} (h : s.Good) {i : Nat} (hi : i < s.now.length) : (s.at i).size = s.size := h.nows _ (getD_mem hi)

theorem lt_of_cell {a : Addr} {u : Value} (h : w.cell? a = some u) : a.block < w.heap.size := by
  rcases Nat.lt_or_ge a.block w.heap.size with h1 | h1
  · exact h1
  · simp [World.cell?, Array.getElem?_eq_none h1] at h
theorem below_undrew (h : Below w.drew.heap.size w.drew w') : Below w.heap.size w w' := ⟨h.os, h.tape, h.output, h.size, h.block⟩
theorem head_str (p : ByteArray) : (p.toList == [104, 101, 97, 100]) = decide (p = headT) := by
  have e : headT.toList = [104, 101, 97, 100] := by rw [ByteArray.toList_eq]; rfl
  by_cases h : p = headT
  · subst h; rw [e]; simp
  · rw [← e, Fr.str_ne h]; simp [h]

set_option maxHeartbeats 2000000 in
theorem head_at (a i : Nat) (h : DskR w B R m g s fu) (ha : a ≤ 1) (hi : i = a * s.half) : Calls Try.prog 39 #[.pointer (some ⟨m, 0, none⟩), .int .i64 (a : Int)] w fun e w' => e = .returned (.int .i64 (headG (s.at i) : Int)) ∧ Below w.heap.size w w' := by
  have hil : i < s.now.length := by
    have := h.good.n0
    unfold Dk.half at hi
    rcases (by omega : a = 0 ∨ a = 1) with rfl | rfl <;> omega
  obtain ⟨k, cap, c2, ck, hcap⟩ := h.sector i hil
  have hbs := h.good.atSize hil
  have hsz := h.good.sz
  have hn1 := h.good.n1
  obtain ⟨b, hb⟩ : ∃ b, b = s.at i := ⟨_, rfl⟩
  rw [← hb] at ck hbs ⊢
  obtain ⟨n, hn⟩ : ∃ n, n = s.now.length := ⟨_, rfl⟩
  rw [← hn] at c2 hil hcap hn1
  have lm := lt_of_cell c2
  have lk := lt_of_cell ck
  obtain ⟨hf, hhf⟩ : ∃ hf, hf = s.half := ⟨_, rfl⟩
  have eh : IntKind.i64.wrap ((n : Int) / 2) = (hf : Int) := by
    have e : (n : Int) / 2 = (hf : Int) := by rw [hhf, hn]; unfold Dk.half; omega
    rw [e]; exact IntWalk.i64_in _ (by omega)
  have em : IntKind.i64.wrap ((a : Int) * (hf : Int)) = (i : Int) := by
    have e : (a : Int) * (hf : Int) = (i : Int) := by rw [hi, ← hhf]; exact (Int.natCast_mul a hf).symm
    rw [e]; exact IntWalk.i64_in _ (by omega)
  have i0 : (0 : Int) ≤ (i : Int) := by omega
  have i1 : (i : Int) < (n : Int) := by omega
  have HL := Lib.hid lm
  have HK := Lib.hid lk
  clear hb hn hi h lm lk hhf
  cases hl : look b with
  | none =>
    have HG := Lib.hid (fun W => mget_none hl W (by omega))
    have HV : Hid (headG b = 0) := Lib.hid (by unfold headG; rw [hl])
    clear hl
    rw [HV.out]
    go_enter Try.func39, Try.ntmps39
    go_wp2_with fail
    go_region_held3 (fun wx => wx.cell? ⟨m, 2, none⟩ = some (.slice (some ⟨k, 0, none⟩) n cap) ∧ wx.cell? ⟨k, i, none⟩ = some (.string b)) (first | exact ⟨c2, ck⟩ | exact ⟨q2, qk⟩)
      (first | (go_at_call 41; refine (HG.out _).mono ?_; rintro e w1 ⟨rfl, hb1⟩; have q2 := (hb1.cell (p := ⟨m, 2, none⟩) HL.out).trans c2; have qk := (hb1.cell (p := ⟨k, i, none⟩) HK.out).trans ck))
    go_wp2
    go_ret
    exact ⟨rfl, below_undrew hb1⟩
  | some x =>
    obtain ⟨gn, sq, p⟩ := x
    have HG := Lib.hid (fun W => mget_some hl W)
    have HV : Hid (headG b = if sq = 0 ∧ p = headT then gn else 0) := Lib.hid (by unfold headG; rw [hl])
    have hps := (look_lt hl).2.2.1
    clear hl
    rw [HV.out]
    have ep := head_str p
    by_cases h1 : sq = 0
    · subst h1
      by_cases h2 : p = headT
      · rw [decide_eq_true h2] at ep
        rw [if_pos ⟨rfl, h2⟩]
        clear h2
        go_enter Try.func39, Try.ntmps39
        go_wp2_with fail
        go_region_held3 (fun wx => wx.cell? ⟨m, 2, none⟩ = some (.slice (some ⟨k, 0, none⟩) n cap) ∧ wx.cell? ⟨k, i, none⟩ = some (.string b)) (first | exact ⟨c2, ck⟩ | exact ⟨q2, qk⟩)
          (first | (go_at_call 41; refine (HG.out _).mono ?_; rintro e w1 ⟨rfl, hb1⟩; have q2 := (hb1.cell (p := ⟨m, 2, none⟩) HL.out).trans c2; have qk := (hb1.cell (p := ⟨k, i, none⟩) HK.out).trans ck))
        go_wp2
        go_ret
        exact ⟨rfl, below_undrew hb1⟩
      · rw [decide_eq_false h2] at ep
        rw [if_neg (fun h => h2 h.2)]
        clear h2
        go_enter Try.func39, Try.ntmps39
        go_wp2_with fail
        go_region_held3 (fun wx => wx.cell? ⟨m, 2, none⟩ = some (.slice (some ⟨k, 0, none⟩) n cap) ∧ wx.cell? ⟨k, i, none⟩ = some (.string b)) (first | exact ⟨c2, ck⟩ | exact ⟨q2, qk⟩)
          (first | (go_at_call 41; refine (HG.out _).mono ?_; rintro e w1 ⟨rfl, hb1⟩; have q2 := (hb1.cell (p := ⟨m, 2, none⟩) HL.out).trans c2; have qk := (hb1.cell (p := ⟨k, i, none⟩) HK.out).trans ck))
        go_wp2
        go_ret
        exact ⟨rfl, below_undrew hb1⟩
    · have e1 : ((sq : Int) == 0) = false := by simpa using h1
      have e2 : decide (sq = 0) = false := by simpa using h1
      rw [if_neg (fun h => h1 h.1)]
      clear h1 ep
      go_enter Try.func39, Try.ntmps39
      go_wp2_with fail
      go_region_held3 (fun wx => wx.cell? ⟨m, 2, none⟩ = some (.slice (some ⟨k, 0, none⟩) n cap) ∧ wx.cell? ⟨k, i, none⟩ = some (.string b)) (first | exact ⟨c2, ck⟩ | exact ⟨q2, qk⟩)
        (first | (go_at_call 41; refine (HG.out _).mono ?_; rintro e w1 ⟨rfl, hb1⟩; have q2 := (hb1.cell (p := ⟨m, 2, none⟩) HL.out).trans c2; have qk := (hb1.cell (p := ⟨k, i, none⟩) HK.out).trans ck))
      go_wp2
      go_ret
      exact ⟨rfl, below_undrew hb1⟩
end Go.Proofs.Ytooikkjgcpngdaa
