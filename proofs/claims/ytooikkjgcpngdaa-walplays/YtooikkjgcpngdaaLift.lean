/-
  From a law's walk to its given row: the arguments as they were, all that was there as it was.
-/
import Derived.Test.YtooikkjgcpngdaaWalK
import Derived.Test.YtooikkjgcpngdaaRows
import Derived.ChangeSame
import Derived.ChangeVars
import Derived.JoinedOf
import Derived.RowKit
import Derived.RowKitTokens
import Derived.LaidLaws
import Derived.Stop.Joined
import Derived.Carry
import Derived.ProofKit
import Derived.OpenShut
import Derived.ChangeMaps5
import Derived.ChangeSlices
import Derived.Deep.Slices
import Derived.Deep.Strs
import Derived.WideKeyArr2
namespace Go.Proofs.Ytooikkjgcpngdaa
open Go.ChangeShapes Go.WideShapes Go.ChangeAt Go.RowKit

theorem t_own : ownKnob Try.prog.godebug = none := by kernel_rfl
theorem t_laidOut : laidOutB Try.prog = true := by kernel_rfl

/-- All arguments read behind the call as they did. -/
theorem trodAll_under {H : Type} {enc : TypeId × Value → H} {W W' : World} (hb : Below W.heap.size W W') : ∀ (ts : List TypeId) (vs : List Value) (ds : List (DataW H)) (ps : List MemPlace),
    (∀ t ∈ ts, Try.prog.readableRec t = true ∧ t < Try.prog.types.size) → DataW.TrodAll enc Try.prog W 0 (fun _ => true) true ts vs ds ps → (∀ x ∈ ps, x.block < W.heap.size) →
    DataW.TrodAll enc Try.prog W' 0 (fun b => decide (b < W.heap.size)) true ts vs ds ps
  | [], vs, ds, ps, _, h, _ => by
    obtain ⟨rfl, rfl, rfl⟩ := trodAll_nil h
    exact trodAll_mk0
  | t :: ts, vs, ds, ps, ht, h, hp => by
    obtain ⟨v0, vs0, d0, ds0, p0, q0, rfl, rfl, rfl, h0, r0⟩ := trodAll_cons h
    obtain ⟨hr, hrow⟩ := ht t (List.mem_cons_self ..)
    exact trodAll_cons_mk (Below.trod t_laidOut hr hrow h0 hb fun x hx => hp x (List.mem_append_left _ hx))
      (trodAll_under hb ts vs0 ds0 q0 (fun t' h' => ht t' (List.mem_cons_of_mem _ h')) r0 fun x hx => hp x (List.mem_append_right _ hx))

theorem t_size : 70 < Try.prog.types.size := of_decide_eq_true (by kernel_rfl)
theorem params_ok (t : Nat) (h : t = 3 ∨ t = 9 ∨ t = 22 ∨ t = 23 ∨ t = 36) : Try.prog.readableRec t = true ∧ t < Try.prog.types.size := by
  have := t_size
  rcases h with rfl | rfl | rfl | rfl | rfl <;> exact ⟨by kernel_rfl, by omega⟩

/-- What a law leaves: true, all that was there as it was. -/
def Holds (w : World) (e : Ending) (w' : World) : Prop := e = .returned (.bool true) ∧ Below w.heap.size w w'

/-- A law's post out of its walk. -/
theorem post_of_holds {H : Type} {enc : TypeId × Value → H} {f : Func} {s : ChangeSpec} {W W' : World} {args : Array Value} {ds gs : List (DataW H)} {before : List MemPlace}
    (hW : DataW.Whole enc Try.prog f.params.toList s.vars false W args.toList ds gs before) (hr : f.resultTypes = #[4]) (hv : s.vars = [])
    (hp : ∀ t ∈ f.params.toList, Try.prog.readableRec t = true ∧ t < Try.prog.types.size)
    (hfn : (s.fn H ds).results = [.lit (.bool true)] ∧ (s.fn H ds).args = ds ∧ (s.fn H ds).vars = []) (hb : Below W.heap.size W W') :
    s.post enc Try.prog f false true false false W args (.bool true) W' := by
  have hW' := hW
  obtain ⟨p, q, hA, hV, rfl, _, _⟩ := hW
  rw [hv] at hV
  obtain ⟨rfl, rfl⟩ : gs = [] ∧ q = [] := by
    cases gs with
    | nil => exact ⟨rfl, hV⟩
    | cons g r => exact absurd hV (by intro h; cases h)
  obtain ⟨h1, h2, h3⟩ := hfn
  refine ⟨_, _, _, [], p, [], hW', ?_, ?_, ?_, hb.frame _, fun h => by cases h⟩
  · rw [List.append_nil, h1, hr]; exact trodAll_mk1 (shut_bool Try.underlying4 true)
  · rw [List.append_nil, h2]
    exact trodAll_under hb _ _ _ _ hp hA fun x hx => by simpa using hW'.lt x (by simpa using hx)
  · rw [List.append_nil, h3, hv]; rfl


theorem u64_is {n : Int} (h : (Lit.int .u64 n).wf = true) : ∃ k : Nat, k < 18446744073709551616 ∧ n = (k : Int) := by
  have hb := bounds_u64 h
  exact ⟨n.toNat, by omega, by omega⟩
/-- Is an int's number one that an int can be? -/
def Fits (a : Int) : Prop := -9223372036854775808 ≤ a ∧ a ≤ 9223372036854775807

/-- What happens, as it came in. -/
structure Ac where
  kind : Int
  text : ByteArray
  n : Int
  keep : Nat

instance : Inhabited Ac := ⟨⟨0, ⟨#[]⟩, 0, 0⟩⟩
/-- Its four cells lie there. -/
structure Lies (w : World) (b k : Nat) (x : Ac) : Prop where
  c0 : w.cell? ⟨b, k, none⟩ = some (.int .i64 x.kind)
  c1 : w.cell? ⟨b, k + 1, none⟩ = some (.string x.text)
  c2 : w.cell? ⟨b, k + 2, none⟩ = some (.int .i64 x.n)
  c3 : w.cell? ⟨b, k + 3, none⟩ = some (.int .u64 (x.keep : Int))
  bd : x.n ≤ 9223372036854775807 ∧ x.keep < 18446744073709551616 ∧ x.text.size ≤ maxLen

theorem t_cells45 : Try.prog.cellsOf 45 = 4 := by kernel_rfl
theorem t_cells3 : Try.prog.cellsOf 3 = 1 := by kernel_rfl
theorem t_cells9 : Try.prog.cellsOf 9 = 1 := by kernel_rfl
theorem t_cellsK : Try.prog.cellsOf 43 = 1 := by kernel_rfl

/-- A list of acts that came in: none, or they lie one behind the other. -/
def Acts (w : World) (v : Value) : Prop := (∃ (A : Option Addr) (c : Nat), v = .slice A 0 c) ∨ ∃ (b off c : Nat) (xs : List Ac), v = .slice (some ⟨b, off, none⟩) xs.length c ∧ xs.length ≤ maxLen ∧ 0 < xs.length ∧ b < w.heap.size ∧ ∀ i (hi : i < xs.length), Lies w b (off + i * 4) xs[i]
theorem Lies.under {w w' : World} {b k B : Nat} {x : Ac} (h : Lies w b k x) (hb : Below B w w') (hB : b < B) : Lies w' b k x :=
  ⟨(hb.cell (p := ⟨b, k, none⟩) hB).trans h.c0, (hb.cell (p := ⟨b, k + 1, none⟩) hB).trans h.c1, (hb.cell (p := ⟨b, k + 2, none⟩) hB).trans h.c2, (hb.cell (p := ⟨b, k + 3, none⟩) hB).trans h.c3, h.bd⟩

theorem addr_add (b off : Nat) : ∀ i, (⟨b, off, none⟩ : Addr).add i = ⟨b, off + i, none⟩ := fun i => by unfold Addr.add; split <;> simp_all
section
variable {H : Type} {enc : TypeId × Value → H} {W : World} {base : Nat} {v : Value} {d : DataW H} {ps : List MemPlace}
set_option maxRecDepth 100000 in
theorem open_acts (hok : Value.okWide Try.prog W .any base 23 v) (h : DataW.Trod enc Try.prog W 0 (fun _ => true) true 23 v d ps) : Acts W v := by
  obtain ⟨a, len, cap, rfl⟩ := okWide_slice Try.underlying23 hok
  obtain ⟨fuel, hf⟩ := h
  rcases Go.Deep.open_slice Try.underlying23 hf with ⟨h0, _⟩ | ⟨a', len', cap', m, n, D, Pl, h0, _, hl, hm, hmm, _, hcell⟩
  · obtain ⟨rfl, rfl, rfl⟩ : a = none ∧ len = 0 ∧ cap = 0 := by simpa [Value.cells] using h0
    exact .inl ⟨none, 0, rfl⟩
  · obtain ⟨rfl, rfl, rfl⟩ : a = some a' ∧ len = len' ∧ cap = cap' := by simpa [Value.cells] using h0
    rcases Nat.eq_zero_or_pos len with h5 | h5
    · subst h5
      exact .inl ⟨_, _, rfl⟩
    have hm' : m = cap := by simpa using hmm
    subst hm'
    have each : ∀ i, i < len → ∃ q : Ac, W.cell? (a'.add (i * 4)) = some (.int .i64 q.kind) ∧ W.cell? (a'.add (i * 4 + 1)) = some (.string q.text) ∧ W.cell? (a'.add (i * 4 + 2)) = some (.int .i64 q.n) ∧
        W.cell? (a'.add (i * 4 + 3)) = some (.int .u64 (q.keep : Int)) ∧ q.n ≤ 9223372036854775807 ∧ q.keep < 18446744073709551616 ∧ q.text.size ≤ maxLen := by
      intro i hi
      obtain ⟨cs, c1, t1⟩ := hcell i (by omega)
      rw [t_cells45] at c1
      obtain ⟨_, hlen, hc⟩ := World.cells?_some c1
      obtain ⟨xs, k, hk, _, _, hxl, hfs⟩ := DataW.trod_struct Try.underlying45 t1
      match xs, hxl, cs, hlen with
      | [y0, y1, y2, y3], _, [v0, v1, v2, v3], _ =>
        have g0 := hfs 0 _ rfl
        have g1 := hfs 1 _ rfl
        have g2 := hfs 2 _ rfl
        have g3 := hfs 3 _ rfl
        simp [t_cells3, t_cells9, t_cellsK] at g0 g1 g2 g3
        have e0 := hc 0 (by omega)
        have e1 := hc 1 (by omega)
        have e2 := hc 2 (by omega)
        have e3 := hc 3 (by omega)
        rw [Go.Deep.add_add] at e0 e1 e2 e3
        simp at e0 e1 e2 e3
        obtain ⟨x0, f0, _, _⟩ := DataW.trod_int Try.underlying3 g0
        obtain ⟨x1, f1, _, w1⟩ := DataW.trod_string Try.underlying9 g1
        obtain ⟨x2, f2, _, w2⟩ := DataW.trod_int Try.underlying3 g2
        obtain ⟨x3, f3, _, w3⟩ := DataW.trod_int Try.underlying43 g3
        simp at f0 f1 f2 f3
        subst f0 f1 f2 f3
        obtain ⟨q, hq, rfl⟩ := u64_is w3
        exact ⟨⟨x0, x1, x2, q⟩, e0, e1, e2, e3, (bounds_i64 w2).2, hq, w1⟩
    obtain ⟨q, hq⟩ := Go.Deep.choose_lt each
    obtain ⟨b, off, spot⟩ := a'
    have h1 := (hq 0 h5).1
    have hspot : spot = none := by simpa [Addr.add] using World.cell?_spot h1
    subst hspot
    have hadd := addr_add b off
    refine .inr ⟨b, off, m, (List.range len).map q, by simp, by simp; omega, by simpa using h5, ?_, fun i hi => ?_⟩
    · rw [hadd] at h1
      rcases Nat.lt_or_ge b W.heap.size with hlt | hge
      · exact hlt
      · simp [World.cell?, Array.getElem?_eq_none hge] at h1
    · have hi' : i < len := by simpa using hi
      have h2 := hq i hi'
      simp only [hadd] at h2
      obtain ⟨a0, a1, a2, a3, a4, a5, a6⟩ := h2
      simp only [List.getElem_map, List.getElem_range]
      exact ⟨a0, a1, a2, a3, a4, a5, a6⟩
theorem arr22 : Go.WideMaps.ArrKey Try.prog 22 3 2 := ⟨Try.underlying22, by kernel_rfl, by kernel_rfl, by kernel_rfl⟩
set_option maxRecDepth 100000 in
theorem open_two (hok : Value.okWide Try.prog W .any base 22 v) (h : DataW.Trod enc Try.prog W 0 (fun _ => true) true 22 v d ps) : ∃ a b : Int, v = .agg #[.int .i64 a, .int .i64 b] ∧ Fits a ∧ Fits b := by
  obtain ⟨xs, rfl, hx⟩ := Go.WideMaps.okWide_arr arr22 hok
  obtain ⟨fuel, hf⟩ := h
  obtain ⟨ys, n, _, _, hl, hyl, hi⟩ := DataW.trod_array Try.underlying22 hf
  match xs, hx with
  | ⟨[x0, x1]⟩, _ =>
    match ys, hyl with
    | [y0, y1], _ =>
      have g0 := hi 0 (by omega)
      have g1 := hi 1 (by omega)
      simp [t_cells3, Value.cells] at g0 g1
      obtain ⟨a, f0, _, w0⟩ := DataW.trod_int Try.underlying3 g0
      obtain ⟨b, f1, _, w1⟩ := DataW.trod_int Try.underlying3 g1
      simp at f0 f1
      subst f0 f1
      exact ⟨a, b, rfl, bounds_i64 w0, bounds_i64 w1⟩
theorem lt_of_cellA {a : Addr} {u : Value} (h : W.cell? a = some u) : a.block < W.heap.size := by
  rcases Nat.lt_or_ge a.block W.heap.size with h1 | h1
  · exact h1
  · rw [World.cell?] at h
    simp [Array.getElem?_eq_none h1] at h
set_option maxRecDepth 100000 in
/-- A list of texts that came in. -/
theorem open_list (hok : Value.okWide Try.prog W .any base 36 v) (h : DataW.Trod enc Try.prog W 0 (fun _ => true) true 36 v d ps) :
    ∃ (xs : List ByteArray), xs.length ≤ maxLen ∧ Vals W v (strs xs) ∧ ∀ x ∈ xs, x.size ≤ maxLen := by
  obtain ⟨a, len, cap, rfl⟩ := okWide_slice Try.underlying36 hok
  obtain ⟨fuel, hf⟩ := h
  rcases Go.Deep.open_strs Try.underlying36 Try.underlying9 t_cells9 hf with ⟨h0, _⟩ | ⟨a', len', cap', m, Sx, h0, _, hl, hm, hmm, _, hcell⟩
  · have h1 : Value.slice a len cap = .slice none 0 0 := by simpa [Value.cells] using h0
    rw [h1]
    exact ⟨[], Nat.zero_le _, .inl ⟨rfl, rfl⟩, fun x hx => by cases hx⟩
  · have h1 : Value.slice a len cap = .slice (some a') len' cap' := by simpa [Value.cells] using h0
    rw [h1]
    have hm' : m = cap' := by simpa using hmm
    subst hm'
    refine ⟨(List.range len').map Sx, by simp; omega, .inr ⟨a', m, by simp [strs], by simp [strs]; exact hl, fun h0 => ?_, ?_⟩, ?_⟩
    · have h2 : 0 < len' := by simpa [strs] using h0
      have h3 := lt_of_cellA (hcell 0 (by omega)).1
      rw [add_block] at h3
      exact h3
    · intro i u hu
      have hi : i < len' := by
        have := (List.getElem?_eq_some_iff.1 hu).1
        simpa [strs] using this
      have e1 : u = .string (Sx i) := by simpa [strs, hi, eq_comm] using hu
      rw [e1]
      exact (hcell i (by omega)).1
    · intro x hx
      obtain ⟨i, hi, rfl⟩ := List.mem_map.1 hx
      exact (hcell i (by have := List.mem_range.1 hi; omega)).2
end
end Go.Proofs.Ytooikkjgcpngdaa
