/-
  What an act does to the route, and to the numbers: plain facts, for the laws.
-/
import Derived.Test.YtchaeidmjoelnaaMdK
import Derived.Test.YtchaeidmjoelnaaPlnF
namespace Go.Proofs.Ytchaeidmjoelnaa
open Go.RowKit

theorem act_to {m : Md} (h : MdI m) (a : Am) : ((actM m a).1.ro.slot = m.ro.slot ∧ (actM m a).1.ro.gen = m.ro.gen) ∨ (a.kind = 2 ∧ (actM m a).1.ro.slot = 1 - m.s.ac ∧ m.ro.gen < (actM m a).1.ro.gen ∧ poS m.s = true ∧ (m.s.sw = 0 → fullO m = true)) := by
  unfold actM
  split
  · exact .inl (by rw [op_ro]; exact ⟨rfl, rfl⟩)
  split
  · rename_i h2
    rcases step_to h a.outs with h3 | ⟨h3, h4, h5, h6⟩
    · exact .inl h3
    · exact .inr ⟨h2, h3, h4, h5, h6⟩
  split
  · exact .inl ⟨rfl, rfl⟩
  split
  · exact .inl ⟨rfl, rfl⟩
  · exact .inl ⟨rfl, rfl⟩
theorem act_keeps {m : Md} (h : MdI m) (a : Am) {slot : Int} (h2 : slot = 0 ∨ slot = 1) : Keeps1 m (actM m a).1 slot := by
  unfold actM
  split
  · exact op_keeps h a.op h2
  split
  · exact step_keeps h a.outs h2
  split
  · exact same_keeps (m := m) (m' := readyM m a.slot a.num a.on) rfl rfl slot
  split
  · exact same_keeps (m := m) (m' := tickM m a.num) rfl rfl slot
  · exact same_keeps (m := m) (m' := m) rfl rfl slot
theorem full_any (m : Md) (w : World) : Calls Try.prog 15 #[.agg (stC m.s), .agg (vwC (viewM m)), .int .i64 (1 - m.s.ac)] w fun e w' => e = .returned (.bool (fullO m)) ∧ Below w.heap.size w w' := mfull_any m.s (viewM m) (1 - m.s.ac) w
theorem i4v : (Try.prog.info? 42).map (·.size) = some 4 := by kernel_rfl
/-- The rows of a reply in the middle of a block. -/
theorem rep_st {W : World} {X : Nat} {cs : Array Value} {t : TypeId} {m : Md} (h : Rw W X cs t) (hc : cs = repC m) : W.rangeAt X 1 (stC m.s).toList := h.range _ (fun j v hv => by
  rw [hc]
  match j, hv with
  | 0, hv | 1, hv | 2, hv | 3, hv | 4, hv | 5, hv | 6, hv | 7, hv | 8, hv | 9, hv | 10, hv | 11, hv => exact hv
  | j + 12, hv => simp [stC] at hv)
theorem rep_vw {W : World} {X : Nat} {cs : Array Value} {t : TypeId} {m : Md} (h : Rw W X cs t) (hc : cs = repC m) : W.rangeAt X 15 (vwC (viewM m)).toList := h.range _ (fun j v hv => by
  rw [hc]
  match j, hv with
  | 0, hv | 1, hv | 2, hv | 3, hv => exact hv
  | j + 4, hv => simp [vwC] at hv)
theorem rep_cell {W : World} {X : Nat} {cs : Array Value} {t : TypeId} {m : Md} {s g : Int} (h : Rw W X cs t) (hc : cs = repC m) (hs : s = m.ro.slot) (hg : g = m.ro.gen) : W.rangeAt X 13 (#[.int .i64 s, .int .i64 g] : Array Value).toList := h.range _ (fun j v hv => by
  rw [hc]
  match j, hv with
  | 0, hv => rw [← hv, hs]; rfl
  | 1, hv => rw [← hv, hg]; rfl
  | j + 2, hv => simp at hv)
end Go.Proofs.Ytchaeidmjoelnaa
