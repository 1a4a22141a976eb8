/-
  From a law's walk to its given row: the arguments as they were, all that was there as it was.
-/
import Derived.Test.YteefeloganaagaaAwake
import Derived.Test.YteefeloganaagaaRows
import Derived.ChangeSame
import Derived.ChangeVars
import Derived.JoinedOf
import Derived.RowKit
import Derived.RowKitTokens
import Derived.LaidLaws
import Derived.Stop.Joined
import Derived.Carry
import Derived.ProofKit
import Derived.OpenShut
import Derived.ChangeMaps5
import Derived.ChangeSlices
import Derived.Deep.Slices
namespace Go.Proofs.Yteefeloganaagaa
open Go.ChangeShapes Go.WideShapes Go.ChangeAt Go.RowKit

theorem t_own : ownKnob Try.prog.godebug = none := by kernel_rfl
theorem t_laidOut : laidOutB Try.prog = true := by kernel_rfl

/-- All arguments read behind the call as they did. -/
theorem trodAll_under {H : Type} {enc : TypeId × Value → H} {W W' : World} (hb : Below W.heap.size W W') : ∀ (ts : List TypeId) (vs : List Value) (ds : List (DataW H)) (ps : List MemPlace),
    (∀ t ∈ ts, Try.prog.readableRec t = true ∧ t < Try.prog.types.size) → DataW.TrodAll enc Try.prog W 0 (fun _ => true) true ts vs ds ps → (∀ x ∈ ps, x.block < W.heap.size) →
    DataW.TrodAll enc Try.prog W' 0 (fun b => decide (b < W.heap.size)) true ts vs ds ps
  | [], vs, ds, ps, _, h, _ => by
    obtain ⟨rfl, rfl, rfl⟩ := trodAll_nil h
    exact trodAll_mk0
  | t :: ts, vs, ds, ps, ht, h, hp => by
    obtain ⟨v0, vs0, d0, ds0, p0, q0, rfl, rfl, rfl, h0, r0⟩ := trodAll_cons h
    obtain ⟨hr, hrow⟩ := ht t (List.mem_cons_self ..)
    exact trodAll_cons_mk (Below.trod t_laidOut hr hrow h0 hb fun x hx => hp x (List.mem_append_left _ hx))
      (trodAll_under hb ts vs0 ds0 q0 (fun t' h' => ht t' (List.mem_cons_of_mem _ h')) r0 fun x hx => hp x (List.mem_append_right _ hx))

theorem t_size : 39 < Try.prog.types.size := of_decide_eq_true (by kernel_rfl)
theorem params_ok (t : Nat) (h : t = 3 ∨ t = 9 ∨ t = 22) : Try.prog.readableRec t = true ∧ t < Try.prog.types.size := by
  have := t_size
  rcases h with rfl | rfl | rfl <;> exact ⟨by kernel_rfl, by omega⟩

/-- What a law leaves: true, all that was there as it was. -/
def Holds (w : World) (e : Ending) (w' : World) : Prop := e = .returned (.bool true) ∧ Below w.heap.size w w'

/-- A law's post out of its walk. -/
theorem post_of_holds {H : Type} {enc : TypeId × Value → H} {f : Func} {s : ChangeSpec} {W W' : World} {args : Array Value} {ds gs : List (DataW H)} {before : List MemPlace}
    (hW : DataW.Whole enc Try.prog f.params.toList s.vars false W args.toList ds gs before) (hr : f.resultTypes = #[4]) (hv : s.vars = [])
    (hp : ∀ t ∈ f.params.toList, Try.prog.readableRec t = true ∧ t < Try.prog.types.size)
    (hfn : (s.fn H ds).results = [.lit (.bool true)] ∧ (s.fn H ds).args = ds ∧ (s.fn H ds).vars = []) (hb : Below W.heap.size W W') :
    s.post enc Try.prog f false true false false W args (.bool true) W' := by
  have hW' := hW
  obtain ⟨p, q, hA, hV, rfl, _, _⟩ := hW
  rw [hv] at hV
  obtain ⟨rfl, rfl⟩ : gs = [] ∧ q = [] := by
    cases gs with
    | nil => exact ⟨rfl, hV⟩
    | cons g r => exact absurd hV (by intro h; cases h)
  obtain ⟨h1, h2, h3⟩ := hfn
  refine ⟨_, _, _, [], p, [], hW', ?_, ?_, ?_, hb.frame _, fun h => by cases h⟩
  · rw [List.append_nil, h1, hr]; exact trodAll_mk1 (shut_bool Try.underlying4 true)
  · rw [List.append_nil, h2]
    exact trodAll_under hb _ _ _ _ hp hA fun x hx => by simpa using hW'.lt x (by simpa using hx)
  · rw [List.append_nil, h3, hv]; rfl

theorem t_cells3 : Try.prog.cellsOf 3 = 1 := by kernel_rfl

theorem lt_of_cell {w : World} {a : Addr} {v : Value} (h : w.cell? a = some v) : a.block < w.heap.size := by
  rcases Nat.lt_or_ge a.block w.heap.size with h1 | h1
  · exact h1
  · rw [World.cell?] at h
    simp [Array.getElem?_eq_none h1] at h
/-- A list of ints that came in. -/
theorem open_nums {H : Type} {enc : TypeId × Value → H} {W : World} {base : Nat} {v : Value} {d : DataW H} {ps : List MemPlace} (hok : Value.okWide Try.prog W .any base 22 v) (h : DataW.Trod enc Try.prog W 0 (fun _ => true) true 22 v d ps) :
    ∃ (xs : List Int), xs.length ≤ maxLen ∧ Vals W v (ints xs) ∧ FitsAll xs := by
  obtain ⟨a, len, cap, rfl⟩ := okWide_slice Try.underlying22 hok
  obtain ⟨fuel, hf⟩ := h
  rcases open_ints Try.underlying22 Try.underlying3 t_cells3 hf with ⟨h0, _⟩ | ⟨a', len', cap', zs, h0, _, hl, hm, hmm, _, hcell, hwf⟩
  · have h1 : Value.slice a len cap = .slice none 0 0 := by simpa [Value.cells] using h0
    rw [h1]
    exact ⟨[], Nat.zero_le _, .inl ⟨rfl, rfl⟩, fun x hx => by cases hx⟩
  · have h1 : Value.slice a len cap = .slice (some a') len' cap' := by simpa [Value.cells] using h0
    rw [h1]
    have hm' : zs.length = cap' := by simpa using hmm
    have hle : (zs.take len').length = len' := by simp; omega
    refine ⟨zs.take len', by omega, .inr ⟨a', cap', by rw [ints_len, hle], by rw [ints_len, hle]; exact hl, ?_, ?_⟩, fun x hx => bounds_i64 (hwf x (List.mem_of_mem_take hx))⟩
    · intro h0
      rw [ints_len, hle] at h0
      have := hcell 0 (by omega)
      have h2 := lt_of_cell this
      rw [add_block] at h2
      exact h2
    · intro i u hu
      have hi : i < len' := by
        have := (List.getElem?_eq_some_iff.1 hu).1
        rw [ints_len, hle] at this
        exact this
      have hz : i < zs.length := by omega
      have e1 : u = .int .i64 zs[i] := by simpa [ints, hi, hz, List.getElem?_take, eq_comm] using hu
      rw [e1, hcell i hz, List.getD_eq_getElem?_getD, List.getElem?_eq_getElem hz]
      rfl
/-- Numbers that are put, as ints and as numbers. -/
theorem nums_nats {xs : List Int} (h : putOk xs = true) : nums (nats xs) = ints xs := by
  unfold nums nats
  rw [List.map_map]
  unfold putOk at h
  rw [List.all_eq_true] at h
  congr 1
  conv => rhs; rw [← List.map_id xs]
  refine List.map_congr_left fun x hx => ?_
  have := h x hx
  simp [cast] at this ⊢
  omega
theorem nats_nums (ns : List Nat) : nats (ns.map cast) = ns := by
  unfold nats
  rw [List.map_map]
  conv => rhs; rw [← List.map_id ns]
  exact List.map_congr_left fun x _ => by simp [cast]
theorem ok_nums (ns : List Nat) : putOk (ns.map cast) = true := by
  unfold putOk
  rw [List.all_eq_true]
  intro x hx
  obtain ⟨n, _, rfl⟩ := List.mem_map.1 hx
  simp [cast]
theorem put_nums (ns : List Nat) : putS (ns.map cast) = ⟨(encs ns).toArray⟩ := by unfold putS; rw [if_pos (ok_nums ns), nats_nums]
theorem fits_nums {ns : List Nat} (h : Small ns) : FitsAll (ns.map cast) := by
  intro x hx
  obtain ⟨n, hn, rfl⟩ := List.mem_map.1 hx
  have := h n hn
  unfold Fits cast
  omega
/-- A copy reads as what it is one of. -/
theorem vals_copied {w2 : World} {B n : Nat} {v2 : Value} {xs : List Value} (h : w2.ownsRow B 3 1 v2 (0 + n) ([] ++ xs)) : Vals w2 v2 xs := by
  rw [List.nil_append] at h
  exact Vals.of_own h
/-- What was there is there, behind a copy. -/
theorem below_copied {w w1 w2 : World} {o : Obj} (h : Below w.heap.size w w1) (hg : (w1.alloc o).grownBy w2 (some w1.heap.size)) : Below w.heap.size w w2 :=
  below_grown (h.alloc h.size o) hg (fun k hk => by injection hk with hk; have := h.size; omega) (Nat.le_refl _)
end Go.Proofs.Yteefeloganaagaa
