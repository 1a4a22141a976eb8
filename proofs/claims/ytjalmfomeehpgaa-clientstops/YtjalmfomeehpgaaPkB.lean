/-
  Package router in memory: right, next, set.
-/
import Derived.Test.YtjalmfomeehpgaaPkA
import Derived.Test.YtjalmfomeehpgaaRouC
namespace Go.Proofs.Ytjalmfomeehpgaa
open Go.RowKit

set_option maxRecDepth 100000 in
set_option maxHeartbeats 4000000 in
theorem right_any (gen slot : Int) (w : World) : Calls Try.prog 25 #[.int .i64 gen, .int .i64 slot] w fun e w' => e = .returned (.bool (decide (inRange gen slot))) ∧ w = w' := by
  by_cases hs : slot = 0 ∨ slot = 1
  case neg =>
    have H : Hid (decide (inRange gen slot) = false) := Lib.hid (decide_eq_false (fun h => by unfold inRange at h; omega))
    have e1 : (slot == 0) = false := by simpa using fun h => hs (.inl h)
    have e2 : (slot == 1) = false := by simpa using fun h => hs (.inr h)
    clear hs
    go_enter Try.func25, Try.ntmps25
    go_wp2
    go_ret
    exact ⟨by rw [H.out]; rfl, rfl⟩
  by_cases h1 : 1 ≤ gen
  case neg =>
    have H : Hid (decide (inRange gen slot) = false) := Lib.hid (decide_eq_false (fun h => by unfold inRange at h; omega))
    have e3 : decide (1 ≤ gen) = false := by simpa using h1
    clear h1
    rcases hs with rfl | rfl
    · go_enter Try.func25, Try.ntmps25
      go_wp2
      go_ret
      exact ⟨by rw [H.out]; rfl, rfl⟩
    · go_enter Try.func25, Try.ntmps25
      go_wp2
      go_ret
      exact ⟨by rw [H.out]; rfl, rfl⟩
  have e3 : decide (1 ≤ gen) = true := by simpa using h1
  by_cases h2 : gen ≤ 1048576
  case neg =>
    have H : Hid (decide (inRange gen slot) = false) := Lib.hid (decide_eq_false (fun h => by unfold inRange at h; omega))
    have e4 : decide (gen ≤ 1048576) = false := by simpa using h2
    clear h1 h2
    rcases hs with rfl | rfl
    · go_enter Try.func25, Try.ntmps25
      go_wp2
      go_ret
      exact ⟨by rw [H.out]; rfl, rfl⟩
    · go_enter Try.func25, Try.ntmps25
      go_wp2
      go_ret
      exact ⟨by rw [H.out]; rfl, rfl⟩
  have e4 : decide (gen ≤ 1048576) = true := by simpa using h2
  have H : Hid (decide (inRange gen slot) = true) := Lib.hid (decide_eq_true (by unfold inRange; omega))
  clear h1 h2
  rcases hs with rfl | rfl
  · go_enter Try.func25, Try.ntmps25
    go_wp2
    go_ret
    exact ⟨by rw [H.out]; rfl, rfl⟩
  · go_enter Try.func25, Try.ntmps25
    go_wp2
    go_ret
    exact ⟨by rw [H.out]; rfl, rfl⟩
theorem owno_tail {W : World} {v : Value} {x : Int} {xs : List Int} (h : OwnO W v (x :: xs)) : ∃ e o c, v = .slice (some ⟨e, o, none⟩) (xs.length + 1) c ∧ W.cell? ⟨e, o, none⟩ = some (.int .i64 x) ∧ ∃ v1, (∀ W', (Instr.slice 34 v (some (.int .i64 1)) none none).run Try.prog W' = .ok v1 W') ∧ v1.ownBlock = v.ownBlock ∧ OwnO W v1 xs := by
  rcases h with ⟨_, hn⟩ | ⟨g, o, c, cur, rfl, h1, h2, h3, h4, h5⟩
  · cases hn
  · refine ⟨g, o, c, rfl, by have := h5 0 (by simp); simpa using this, _, fun W' => slice_one W' _ _ _ (by simp), ?_, ?_⟩
    · split <;> simp [Value.ownBlock, addr_add]
    · simp only [List.length_cons, Nat.add_sub_cancel]
      simp at h1
      by_cases hc : c = 1
      · subst hc
        obtain rfl : xs = [] := List.length_eq_zero_iff.1 (by omega)
        rw [if_pos rfl]
        exact .inr ⟨g, o, 0, cur, rfl, by simp, by unfold maxLen; omega, h3, by omega, fun k hk => by simp at hk⟩
      · rw [if_neg hc]
        refine .inr ⟨g, o + 1, c - 1, cur, by simp [addr_add], by omega, by omega, h3, by omega, fun k hk => ?_⟩
        have h6 := h5 (k + 1) (by simp; omega)
        simp only [List.getElem_cons_succ] at h6
        rw [show o + 1 + k = o + (k + 1) by omega]
        exact h6
theorem RoP.nb {W : World} {b g : Nat} {v : Value} {s : Ro} (h : RoP W b g v s) : v.ownBlock ≠ some b := fun e => by
  obtain ⟨cur, hc⟩ := h.own.kind b e
  rw [h.row] at hc
  simp at hc
set_option maxRecDepth 100000 in
set_option maxHeartbeats 4000000 in
theorem pnext_any (b g : Nat) (s : Ro) (v : Value) (w : World) (h : RoP w b g v s) : Calls Try.prog 27 #[.pointer (some ⟨b, 0, none⟩)] w fun e w' => e = .returned (.int .i64 (outS s)) ∧ (∃ v', RoP w' b g v' { s with outs := s.outs.tail } ∧ v'.ownBlock = v.ownBlock) ∧ Only b w w' := by
  have hnb := h.nb
  obtain ⟨hrow, hown⟩ := h
  have c3 : w.cell? ⟨b, 3, none⟩ = some v := by rw [cell_of_row w b 3 _ _ _ hrow]; rfl
  cases ho : s.outs with
  | nil =>
    have hv : ∃ A c, v = .slice A 0 c := by
      rw [ho] at hown
      rcases hown with ⟨rfl, _⟩ | ⟨_, _, _, _, rfl, _⟩ <;> exact ⟨_, _, rfl⟩
    have HF : Hid ((∃ v', RoP w b g v' { s with outs := s.outs.tail } ∧ v'.ownBlock = v.ownBlock) ∧ Only b w w) := Lib.hid ⟨⟨v, ⟨hrow, by show OwnO w v s.outs.tail; rw [ho]; rw [ho] at hown; exact hown⟩, rfl⟩, Only.refl _ _⟩
    have HO : Hid (outS s = 0) := Lib.hid (by unfold outS; rw [ho]; rfl)
    rw [ho] at HF
    obtain ⟨A, c, rfl⟩ := hv
    clear hrow hown ho hnb
    go_enter Try.func27, Try.ntmps27
    go_wp2
    go_ret
    exact ⟨by rw [HO.out]; rfl, HF.out⟩
  | cons x xs =>
    have hown' := hown
    rw [ho] at hown'
    obtain ⟨e, o, c, rfl, ce, v1, es, hb1, hv1⟩ := owno_tail hown'
    have f3 : w.frozen? ⟨b, 3, none⟩ = false := by simp [World.frozen?, hrow]
    have HF : Hid ((∃ v', RoP (w.setCell ⟨b, 3, none⟩ v1) b g v' { s with outs := xs } ∧ v'.ownBlock = (Value.slice (some ⟨e, o, none⟩) (xs.length + 1) c).ownBlock) ∧ Only b w (w.setCell ⟨b, 3, none⟩ v1)) := Lib.hid ⟨⟨v1, ⟨heap_setCell_same _ _ 3 _ 59 v1 hrow, hv1.keep (fun k hk => Below.heap_setCell _ _ _ _ (by
      show k ≠ b
      intro e
      subst e
      exact hnb (hb1 ▸ hk)))⟩, hb1⟩, (Only.refl b w).set 3 v1⟩
    have HO : Hid (outS s = x) := Lib.hid (by unfold outS; rw [ho]; rfl)
    have en : ((xs.length : Int) + 1 == 0) = false := by simp; omega
    have hvv : ∃ A n c, v1 = .slice A n c := by
      rcases hv1 with ⟨rfl, _⟩ | ⟨_, _, _, _, rfl, _⟩ <;> exact ⟨_, _, _, rfl⟩
    obtain ⟨A2, n2, cp2, rfl⟩ := hvv
    clear hrow hown hown' ho hnb hb1 hv1
    go_enter Try.func27, Try.ntmps27
    go_wp2
    go_ret
    exact ⟨by rw [HO.out]; rfl, HF.out⟩
end Go.Proofs.Ytjalmfomeehpgaa
