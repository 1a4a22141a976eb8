/-
  Records copied into memory of the call's own; a slice of records that came in.
-/
import Derived.Test.YtoeelglmdnhknaaLift
import Derived.Test.YtoeelglmdnhknaaFirst
import Derived.Test.YtoeelglmdnhknaaMall
import Derived.Deep.AppendLies
import Derived.Laws.AppendOwnNone
namespace Go.Proofs.Ytoeelglmdnhknaa
open Go.ChangeShapes Go.WideShapes Go.ChangeAt Go.RowKit

def flat (rs : List Rc) : List Value := rs.flatMap fun r => (recC r).toList
theorem flat_len (rs : List Rc) : (flat rs).length = rs.length * 19 := by
  induction rs with
  | nil => rfl
  | cons r rs ih =>
    have : (flat (r :: rs)) = (recC r).toList ++ flat rs := rfl
    rw [this, List.length_append, ih, List.length_cons]
    have : (recC r).toList.length = 19 := rfl
    omega
theorem flat_append (a b : List Rc) : flat (a ++ b) = flat a ++ flat b := by unfold flat; rw [List.flatMap_append]
theorem flat_at : ∀ (rs : List Rc) (k : Nat) (hk : k < rs.length) (j : Nat), j < 19 → (flat rs)[k * 19 + j]? = (recC rs[k]).toList[j]?
  | r :: rs, 0, _, j, hj => by
    show ((recC r).toList ++ flat rs)[0 * 19 + j]? = _
    rw [List.getElem?_append_left (by show _ < 19; omega)]
    simp
  | r :: rs, k + 1, hk, j, hj => by
    show ((recC r).toList ++ flat rs)[(k + 1) * 19 + j]? = _
    have hl : (recC r).toList.length = 19 := rfl
    rw [List.getElem?_append_right (by rw [hl]; omega), hl, show (k + 1) * 19 + j - 19 = k * 19 + j by omega]
    exact flat_at rs k (by simpa using hk) j hj
theorem flat_one (rs : List Rc) : ∀ u ∈ flat rs, u.oneCell' = true := by
  intro u hu
  obtain ⟨r, _, hr⟩ := List.mem_flatMap.1 hu
  exact (Array.all_eq_true_iff_forall_mem.1 (recC_one r)) u (by simpa using hr)
theorem flat_cells {W : World} {b o : Nat} {rs : List Rc} (h : ∀ k (h : k < rs.length), W.rangeAt b (o + k * 19) (recC rs[k]).toList) : ∀ j u, (flat rs)[j]? = some u → W.cell? ((⟨b, o, none⟩ : Addr).add j) = some u := by
  intro j u hu
  have hj := (List.getElem?_eq_some_iff.1 hu).1
  rw [flat_len] at hj
  have hk : j / 19 < rs.length := by omega
  have hm : j % 19 < 19 := Nat.mod_lt _ (by decide)
  have e : j / 19 * 19 + j % 19 = j := by omega
  rw [← e, flat_at rs _ hk _ hm] at hu
  have h1 := h _ hk _ _ hu
  rw [Addr.add_mid]
  rw [show o + j = o + j / 19 * 19 + j % 19 by omega]
  exact h1
theorem recs_of_own {W : World} {base : Nat} {v : Value} {rs : List Rc} (h : W.ownsRow base 27 19 v rs.length (flat rs)) : Recs W v rs := by
  rcases h.2 with ⟨hv, hn⟩ | ⟨g, cap, cur, hv, hb, hg, hn, hc, hs, ht⟩
  · exact .inl ⟨hv, List.length_eq_zero_iff.1 hn⟩
  · refine .inr ⟨g, 0, cap, hv, hn, lt_of_block hg, fun k hk j u hu => ?_⟩
    have hj : j < 19 := (List.getElem?_eq_some_iff.1 hu).1
    rw [cell_of_row W g _ cur 27 (0, 0) hg]
    have h1 : (flat rs)[k * 19 + j]? = some u := by rw [flat_at rs k hk j hj]; exact hu
    rw [← ht, List.getElem?_take_of_lt (by omega)] at h1
    rw [Nat.zero_add]
    simpa using h1
theorem ie27_bytes : ie27.bytes ≤ 100000 := of_decide_eq_true (by kernel_rfl)
theorem zero_cells : (recV ⟨0, 0, 0, 0, 0, 0, false, zeroS⟩).cells.size = 19 := rfl
/-- A slice of records: an empty one, or they lie one behind the other. -/
def RecsI (W : World) (v : Value) (rs : List Rc) : Prop :=
  ((v = .slice none 0 0 ∨ ∃ a c, v = .slice (some a) 0 c) ∧ rs = []) ∨ ∃ b o c, v = .slice (some ⟨b, o, none⟩) rs.length c ∧ 0 < rs.length ∧ rs.length ≤ c ∧ b < W.heap.size ∧ ∀ k (h : k < rs.length), W.rangeAt b (o + k * 19) (recC rs[k]).toList
theorem RecsI.under {W W' : World} {v : Value} {rs : List Rc} {B : Nat} (h : RecsI W v rs) (hb : Below B W W') (hB : W.heap.size ≤ B) : RecsI W' v rs := by
  rcases h with h | ⟨b, o, c, h1, h2, h3, h4, h5⟩
  · exact .inl h
  · exact .inr ⟨b, o, c, h1, h2, h3, Nat.lt_of_lt_of_le h4 hb.size, fun k h => rangeAt_under (h5 k h) hb (by omega)⟩
theorem append_recs {W : World} {base : Nat} {bv v : Value} {rs0 rs : List Rc} (hown : W.ownsRow base 27 19 bv rs0.length (flat rs0)) (hv : RecsI W v rs) (hb : base ≤ W.heap.size) (hn : rs0.length + rs.length ≤ 1000) :
    ∃ v' W', (Builtin.append_ #[33, 33] 33 #[bv, v]).run Try.prog W = .ok v' W' ∧ Recs W' v' (rs0 ++ rs) ∧ W.grownBy W' bv.ownBlock := by
  have hby := ie27_bytes
  have own : ∀ {v' W'}, W'.ownsRow base 27 19 v' (rs0.length + rs.length) (flat rs0 ++ flat rs) → Recs W' v' (rs0 ++ rs) := fun h => recs_of_own (by rw [List.length_append, flat_append]; exact h)
  rcases hv with ⟨rfl | ⟨a, c, rfl⟩, rfl⟩ | ⟨b, o, c, rfl, h1, h2, h3, h4⟩
  · exact ⟨bv, W, run_append_owned_none (P := Try.prog) W base 33 33 27 ie27 19 Try.underlying33 ie27_is bv rs0.length (flat rs0) hown, own (by simpa [flat] using hown), World.grownBy.refl W _⟩
  · obtain ⟨v', W', hr, ho, hg, _, _⟩ := run_append_own_at (P := Try.prog) W base 33 33 27 ie27 _ 19 ie27.bytes Try.underlying33 ie27_is ie27_zero ie27_size rfl zero_cells (by decide) bv rs0.length (flat rs0) hown a 0 c [] rfl (fun j u h => by cases h) (fun u h => by cases h) (by unfold maxLen; omega) (by simp at hn ⊢; exact Nat.le_trans (Nat.mul_le_mul hn hby) (by decide)) hb
    exact ⟨v', W', hr, own ho, hg⟩
  · obtain ⟨v', W', hr, ho, hg, _, _⟩ := run_append_own_at (P := Try.prog) W base 33 33 27 ie27 _ 19 ie27.bytes Try.underlying33 ie27_is ie27_zero ie27_size rfl zero_cells (by decide) bv rs0.length (flat rs0) hown ⟨b, o, none⟩ rs.length c (flat rs) (flat_len rs) (flat_cells h4) (flat_one rs) (by unfold maxLen; omega) (Nat.le_trans (Nat.mul_le_mul hn hby) (by decide)) hb
    exact ⟨v', W', hr, own ho, hg⟩
/-- An append whose outcome is known. -/
theorem wp_append_is {P : Program} {o : Oper} {a : Act} {w w' : World} {K : Act → World → Prop} {Q : Exit → Act → World → Prop} (s x : Operand) (t : TypeId) (ho : o.op = .call { callee := .builtin .append, args := #[s, x], argTypes := #[t, t] })
    {bv v v' : Value} (hs : a.eval s = bv) (hx : a.eval x = v) (hr : (Builtin.append_ #[t, t] o.type #[bv, v]).run P w = .ok v' w') (h : K (a.put o.dst v') w') : o.wp P a w K Q := by
  unfold Oper.wp execOp
  simp only [ho, resolve, invoke, builtin, Sem.run_bind, Sem.run_pure, Result.andThen_ok, List.map_toArray, List.map_cons, List.map_nil, hs, hx, hr]
  exact h
theorem build0 (W : World) : (Instr.buildSlice 33 0 #[]).run Try.prog W = .ok (.slice (some ⟨W.heap.size, 0, none⟩) 0 0) (W.alloc (.cells #[] 27)) := by
  simp [Instr.buildSlice, run_underlying Try.underlying33, sizeOf, typeInfo, ie27_is, newRow, Instr.fill]
  rw [show Array.range 0 = #[] from by kernel_rfl]
  simp
theorem own0 (W : World) {base : Nat} (hb : base ≤ W.heap.size) : (W.alloc (.cells #[] 27)).ownsRow base 27 19 (.slice (some ⟨W.heap.size, 0, none⟩) 0 0) ([] : List Rc).length (flat []) :=
  ⟨rfl, .inr ⟨W.heap.size, 0, #[], rfl, hb, heap_alloc_new W _, Nat.le_refl _, by unfold maxLen; omega, rfl, rfl⟩⟩
theorem build1 (W : World) (r : Rc) : (Instr.buildSlice 33 1 #[(0, .agg (recC r))]).run Try.prog W = .ok (.slice (some ⟨W.heap.size, 0, none⟩) 1 1) (W.alloc (.cells (recC r) 27)) :=
  run_buildSlice W 33 27 1 _ (recC r) ie27 _ Try.underlying33 ie27_is ie27_zero (by rw [ie27_size]; decide) (by rw [ie27_size]; decide) (by rw [ie27_size]; kernel_rfl)
theorem own1 (W : World) (r : Rc) {base : Nat} (hb : base ≤ W.heap.size) : (W.alloc (.cells (recC r) 27)).ownsRow base 27 19 (.slice (some ⟨W.heap.size, 0, none⟩) 1 1) [r].length (flat [r]) :=
  ⟨rfl, .inr ⟨W.heap.size, 1, recC r, rfl, hb, heap_alloc_new W _, Nat.le_refl _, by unfold maxLen; omega, rfl, by simp [flat]; rfl⟩⟩
theorem open_recsI {H : Type} {enc : TypeId × Value → H} {W : World} {base : Nat} {v : Value} {d : DataW H} {ps : List MemPlace} (hok : Value.okWide Try.prog W .any base 33 v) (h : DataW.Trod enc Try.prog W 0 (fun _ => true) true 33 v d ps) : ∃ rs, RecsI W v rs ∧ ∀ r ∈ rs, FitsR r := by
  obtain ⟨a, len, cap, rfl⟩ := okWide_slice Try.underlying33 hok
  obtain ⟨fuel, hf⟩ := h
  rcases Go.Deep.open_slice Try.underlying33 hf with ⟨h0, _⟩ | ⟨a', len', cap', m, n, D, Pl, h0, _, hl, hm, hmm, _, hcell⟩
  · obtain ⟨rfl, rfl, rfl⟩ : a = none ∧ len = 0 ∧ cap = 0 := by simpa [Value.cells] using h0
    exact ⟨[], .inl ⟨.inl rfl, rfl⟩, fun _ h => by cases h⟩
  · obtain ⟨rfl, rfl, rfl⟩ : a = some a' ∧ len = len' ∧ cap = cap' := by simpa [Value.cells] using h0
    rcases Nat.eq_zero_or_pos len with h5 | h5
    · subst h5
      exact ⟨[], .inl ⟨.inr ⟨_, _, rfl⟩, rfl⟩, fun _ h => by cases h⟩
    have hm' : m = cap := by simpa using hmm
    subst hm'
    have each : ∀ i, i < len → ∃ r : Rc, (∀ j v, (recC r).toList[j]? = some v → W.cell? (a'.add (i * 19 + j)) = some v) ∧ FitsR r := by
      intro i hi
      obtain ⟨cs, c1, t1⟩ := hcell i (by omega)
      rw [c27] at c1
      obtain ⟨_, hlen, hc⟩ := World.cells?_some c1
      obtain ⟨r, rfl, hfit⟩ := open_cells27 hlen t1
      refine ⟨r, fun j v hv => ?_, hfit⟩
      have e := hc j (List.getElem?_eq_some_iff.1 hv).1
      rw [Go.Deep.add_add] at e
      rw [e]; exact hv
    obtain ⟨q, hq⟩ := Go.Deep.choose_lt each
    obtain ⟨b, off, spot⟩ := a'
    have h1 := (hq 0 h5).1 0 _ rfl
    have hspot : spot = none := by simpa [Addr.add] using World.cell?_spot h1
    subst hspot
    have hadd := addr_add b off
    refine ⟨(List.range len).map q, .inr ⟨b, off, m, by simp, by simpa using h5, by simpa using hl, ?_, ?_⟩, ?_⟩
    · rw [hadd] at h1
      exact World.block_lt_of_cell? W _ h1
    · intro k hk
      have hk' : k < len := by simpa using hk
      have h2 := (hq k hk').1
      intro j v hv
      have h3 := h2 j v (by simpa using hv)
      rw [hadd] at h3
      rw [Nat.add_assoc]
      exact h3
    · intro r hr
      obtain ⟨k, hk, rfl⟩ := List.mem_map.1 hr
      exact (hq k (by simpa using hk)).2
theorem mall_I (s : St) (rs : List Rc) (v : Value) (w : World) (h : RecsI w v rs) (hn : rs.length ≤ 1000) : Calls Try.prog 17 #[stV s, v] w (AllR (allS s rs) w) := by
  refine mall_any s rs v w ?_ hn
  rcases h with ⟨rfl | ⟨a, c, rfl⟩, rfl⟩ | ⟨b, o, c, rfl, h1, h2, h3, h4⟩
  · exact .inl ⟨_, _, rfl, rfl⟩
  · exact .inl ⟨_, _, rfl, rfl⟩
  · exact .inr ⟨b, o, c, rfl, h1, h3, h4⟩
end Go.Proofs.Ytoeelglmdnhknaa
