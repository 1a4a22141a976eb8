/-
  What ReplicaScales needs: min and max at the operation; two numbers in memory; the replicas behind two Scales.
-/
import Derived.Test.YtfmcfneaeaokeaaGof
import Derived.Deep.LoopGhost
import Derived.Deep.Cut
namespace Go.Proofs.Ytfmcfneaeaokeaa
open Go.RowKit

theorem wpList_min_is {P : Program} {ops : Array Oper} {rest : List Oper} {o : Oper} {a : Act} {w : World} {Q : Exit → Act → World → Prop} (hgd : o.guard = none) (s x : Operand) (t : TypeId) (ho : o.op = .call { callee := .builtin .min, args := #[s, x], argTypes := #[t, t] })
    {p q M : Int} (hs : a.eval s = .int .i64 p) (hx : a.eval x = .int .i64 q) (hM : (if q < p then q else p) = M) (h : wpList P ops Q rest (a.put o.dst (.int .i64 M)) w) : wpList P ops Q (o :: rest) a w :=
  wpList_plain hgd fun _ hK => by
    unfold Oper.wp execOp
    simp only [ho, resolve, invoke, builtin, Sem.run_bind, Sem.run_pure, Result.andThen_ok, List.map_toArray, List.map_cons, List.map_nil, hs, hx, run_min_int2, hM]
    exact hK _ _ h
theorem wpList_max_is {P : Program} {ops : Array Oper} {rest : List Oper} {o : Oper} {a : Act} {w : World} {Q : Exit → Act → World → Prop} (hgd : o.guard = none) (s x : Operand) (t : TypeId) (ho : o.op = .call { callee := .builtin .max, args := #[s, x], argTypes := #[t, t] })
    {p q M : Int} (hs : a.eval s = .int .i64 p) (hx : a.eval x = .int .i64 q) (hM : (if p < q then q else p) = M) (h : wpList P ops Q rest (a.put o.dst (.int .i64 M)) w) : wpList P ops Q (o :: rest) a w :=
  wpList_plain hgd fun _ hK => by
    unfold Oper.wp execOp
    simp only [ho, resolve, invoke, builtin, Sem.run_bind, Sem.run_pure, Result.andThen_ok, List.map_toArray, List.map_cons, List.map_nil, hs, hx, run_max_int2, hM]
    exact hK _ _ h
/-- Two numbers of its own in memory. -/
def Arr (W : World) (k : Nat) (a b : Int) : Prop := W.heap[k]? = some (.cells #[.int .i64 a, .int .i64 b] 39 (0, 0))
section
variable {R : World → Nat → List Bool → Prop} {W W' : World} {k b m n sz : Nat} {x y : Int} {l : List Bool} {g : Int → Option Bool}
theorem Arr.lt (h : Arr W k x y) : k < W.heap.size := lt_of_block h
theorem Arr.c0 (h : Arr W k x y) : W.cell? ⟨k, 0, none⟩ = some (.int .i64 x) := by rw [cell_of_row W k 0 _ _ _ h]; rfl
theorem Arr.c1 (h : Arr W k x y) : W.cell? ⟨k, 1, none⟩ = some (.int .i64 y) := by rw [cell_of_row W k 1 _ _ _ h]; rfl
theorem Arr.below (h : Arr W k x y) (hb : Below W.heap.size W W') : Arr W' k x y := (hb.block k h.lt).trans h
theorem Arr.but (hp : Pkg R) (h : Arr W k x y) (hr : R W b l) (hb : But1 b W W') : Arr W' k x y := (hb.block k h.lt (fun e => by
  obtain ⟨c, hc⟩ := hp.kind hr
  unfold Arr at h
  rw [e, hc] at h
  simp at h)).trans h
theorem Arr.grown (h : Arr W k x y) (hm : MapB W m n g sz) (hg : W.grownBy W' (some m)) : Arr W' k x y := (hg.block k h.lt (fun e => by
  obtain ⟨es, c, hc⟩ := hm.blk
  injection e with e
  unfold Arr at h
  rw [e, hc] at h
  cases h)).trans h
end
theorem cnt_pad (l : List Bool) (i : Nat) : cntL (padL l i) = cntL (l.take i) := by
  unfold padL cntL
  rw [List.countP_append, List.countP_replicate]
  rfl
theorem cnt_pad_take (l : List Bool) (i j : Nat) : cntL ((padL l i).take j) = cntL (l.take (min j i)) := by
  unfold padL cntL
  rw [List.take_append, List.countP_append, List.take_take, List.take_replicate, List.countP_replicate]
  rfl
theorem cnt_two (l : List Bool) (p q : Int) : cntL (scaleL (scaleL l p) q) = cntL (l.take (clampN (min p q))) := by
  unfold scaleL
  rw [cnt_pad, cnt_pad_take]
  have e : min (clampN q) (clampN p) = clampN (min p q) := by unfold clampN; omega
  rw [e]
theorem gOf_at {l : List Bool} {i : Nat} (h : i < l.length) : (gOf l (i : Int)).getD false = l.getD i false := by
  unfold gOf
  have e : ((i : Int)).toNat = i := by omega
  rw [e]
  by_cases hx : l.getD i false = true
  · rw [if_pos ⟨by unfold isW; omega, hx⟩, hx]; rfl
  · rw [if_neg (fun h2 => hx h2.2)]
    rw [Bool.eq_false_iff.2 hx]
    rfl
end Go.Proofs.Ytfmcfneaeaokeaa
