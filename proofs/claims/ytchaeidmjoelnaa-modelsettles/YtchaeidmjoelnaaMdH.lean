/-
  Acts without ticks, rounds: plain facts, for ModelSettles.
-/
import Derived.Test.YtchaeidmjoelnaaMdG
namespace Go.Proofs.Ytchaeidmjoelnaa
open Go.RowKit

theorem go_tick : ∀ (n : Nat) (m : Md), (goM n m).1.tick = m.tick
  | 0, _ => rfl
  | n + 1, m => by
    rw [goM]
    split
    · rfl
    split
    · unfold routeM
      split <;> rfl
    split
    · rfl
    split
    · rfl
    · rw [go_tick n]; rfl
theorem step_tick (m : Md) (xs : List Int) : (stepM m xs).1.tick = m.tick := by unfold stepM; rw [go_tick]; rfl
/-- An act, but no tick. -/
def setA (m : Md) (a : Am) : Md := if a.kind = 4 then m else (actM m a).1
def setsA (m : Md) : List Am → Md
  | [] => m
  | a :: l => setsA (setA m a) l
def moreA : List Am → Nat
  | [] => 0
  | a :: l => a.outs.length + moreA l
theorem more_append (l : List Am) (a : Am) : moreA (l ++ [a]) = moreA l + a.outs.length := by
  induction l with
  | nil => simp [moreA]
  | cons x l ih => simp only [List.cons_append, moreA, ih]; omega
theorem sets_append (m : Md) (l : List Am) (a : Am) : setsA m (l ++ [a]) = setA (setsA m l) a := by
  induction l generalizing m with
  | nil => rfl
  | cons x l ih => exact ih (setA m x)
theorem sets_take (m : Md) (l : List Am) (k : Nat) (h : k < l.length) : setsA m (l.take (k + 1)) = setA (setsA m (l.take k)) l[k] := by
  rw [List.take_succ_eq_append_getElem h, sets_append]
theorem more_take (l : List Am) (k : Nat) (h : k < l.length) : moreA (l.take (k + 1)) = moreA (l.take k) + l[k].outs.length := by
  rw [List.take_succ_eq_append_getElem h, more_append]
/-- What holds of a model behind acts without ticks. -/
structure SetN (n q : Nat) (m : Md) : Prop where
  setl : SetlI m
  mdn : MdN n m
  tick : m.tick = 0
  outs : m.ro.outs.length ≤ q
theorem seta_inv {n q : Nat} {m : Md} (h : SetN n q m) (a : Am) (ha : a.outs.length ≤ 100) : SetN (n + 10) (q + a.outs.length) (setA m a) := by
  unfold setA
  split
  · exact ⟨h.setl, h.mdn.up (by omega), h.tick, by have := h.outs; omega⟩
  rename_i h4
  refine ⟨?_, h.mdn.act a ha, ?_, ?_⟩
  · unfold actM
    split
    · exact setl_op h.setl _
    split
    · exact setl_step h.setl _
    split
    · exact setl_ready h.setl _ _ _
    exact h.setl
  · unfold actM
    split
    · rw [op_tick]; exact h.tick
    split
    · rw [step_tick]; exact h.tick
    split
    · exact h.tick
    exact h.tick
  · have ho := h.outs
    unfold actM
    split
    · rw [op_ro]; omega
    split
    · have := step_outs h.mdn.inv a.outs; omega
    split
    · show m.ro.outs.length ≤ _; omega
    show m.ro.outs.length ≤ _; omega
theorem sets_inv {n q : Nat} : ∀ (l : List Am) {m : Md}, SetN n q m → (∀ a ∈ l, a.outs.length ≤ 100) → SetN (n + 10 * l.length) (q + moreA l) (setsA m l)
  | [], _, h, _ => h
  | a :: l, m, h, hl => by
    have h1 := seta_inv h a (hl a (List.mem_cons_self ..))
    have h2 := sets_inv l h1 (fun x hx => hl x (List.mem_cons_of_mem _ hx))
    have e : q + a.outs.length + moreA l = q + moreA (a :: l) := by simp only [moreA]; omega
    rw [e] at h2
    exact ⟨h2.setl, h2.mdn.up (by simp only [List.length_cons]; omega), h2.tick, h2.outs⟩
theorem sets_new {ca cb cc : Int} (h : rightS (firstS ca cb) = true) : SetN 0 0 (newM (firstS ca cb) cc) := ⟨setl_new h, mdn_new h, rfl, Nat.le_refl _⟩
theorem sets_at {m0 : Md} (h : SetN 0 0 m0) {xs : List Am} (hg : xs.length ≤ 80 ∧ ∀ a ∈ xs, a.outs.length ≤ 50) (k : Nat) : SetN 800 (moreA (xs.take k)) (setsA m0 (xs.take k)) := by
  have h2 := sets_inv (xs.take k) h (fun a ha => by have := hg.2 a (List.mem_of_mem_take ha); omega)
  exact ⟨h2.setl, h2.mdn.up (by rw [List.length_take]; omega), h2.tick, by have := h2.outs; omega⟩
theorem round_mdn {n : Nat} {m : Md} (h : MdN n m) : MdN n (fillM m) ∧ MdN n (roundPre m) ∧ MdN n (roundPost m) ∧ MdN n (roundTick m) ∧ MdN (n + 10) (roundM m) := by
  have h1 := h.fill
  have h2 := h1.op (opPre (orS m.s) true)
  have h3 := h2.op (opPost (raS m.s) true)
  have h4 := h3.tick m.s.dl
  exact ⟨h1, h2, h3, h4, h4.step (xs := []) (by decide)⟩
theorem rounds_mdn {n : Nat} {m : Md} (h : MdN n m) : ∀ j, MdN (n + 10 * j) (roundsM j m)
  | 0 => h
  | j + 1 => by
    have h1 := (round_mdn (rounds_mdn h j)).2.2.2.2
    exact h1.up (by omega)
/-- A reply's state. -/
theorem field44s (m : Md) (w : World) : (Instr.field 44 (.agg (repC m)) 1).run Try.prog w = .ok (.agg (stC m.s)) w := by
  simp [Instr.field, run_underlying Try.underlying44, asAgg, part]
  rfl
theorem fits_dl {m : Md} (h : MdI m) : Fits m.s.dl := h.fits.s.dl
theorem fits_opre {m : Md} (h : MdI m) : FitsO (opPre (orS m.s) true) := by
  have hs := h.fits.s
  refine ⟨fin _ (by simp [opPre]), ?_, fin _ (by simp [opPre]), fin _ (by simp [opPre])⟩
  show Fits (orS m.s)
  unfold orS
  split
  · exact hs.r1
  · exact hs.r0
theorem fits_opost {m : Md} (h : MdI m) : FitsO (opPost (raS m.s) true) := by
  have hs := h.fits.s
  refine ⟨fin _ (by simp [opPost]), ?_, fin _ (by simp [opPost]), fin _ (by simp [opPost])⟩
  show Fits (raS m.s)
  unfold raS
  split
  · exact hs.r0
  · exact hs.r1
end Go.Proofs.Ytchaeidmjoelnaa
