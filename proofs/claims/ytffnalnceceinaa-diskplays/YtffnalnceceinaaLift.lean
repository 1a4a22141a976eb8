/-
  From a law's walk to its given row: the arguments as they were, all that was there as it was.
-/
import Derived.Test.YtffnalnceceinaaAwake
import Derived.Test.YtffnalnceceinaaRows
import Derived.ChangeSame
import Derived.ChangeVars
import Derived.JoinedOf
import Derived.RowKit
import Derived.RowKitTokens
import Derived.LaidLaws
import Derived.Stop.Joined
import Derived.Carry
import Derived.ProofKit
import Derived.OpenShut
import Derived.ChangeMaps5
import Derived.Deep.Slices
namespace Go.Proofs.Ytffnalnceceinaa
open Go.ChangeShapes Go.WideShapes Go.ChangeAt Go.RowKit

theorem t_own : ownKnob Try.prog.godebug = none := by kernel_rfl
theorem t_laidOut : laidOutB Try.prog = true := by kernel_rfl

/-- All arguments read behind the call as they did. -/
theorem trodAll_under {H : Type} {enc : TypeId × Value → H} {W W' : World} (hb : Below W.heap.size W W') : ∀ (ts : List TypeId) (vs : List Value) (ds : List (DataW H)) (ps : List MemPlace),
    (∀ t ∈ ts, Try.prog.readableRec t = true ∧ t < Try.prog.types.size) → DataW.TrodAll enc Try.prog W 0 (fun _ => true) true ts vs ds ps → (∀ x ∈ ps, x.block < W.heap.size) →
    DataW.TrodAll enc Try.prog W' 0 (fun b => decide (b < W.heap.size)) true ts vs ds ps
  | [], vs, ds, ps, _, h, _ => by
    obtain ⟨rfl, rfl, rfl⟩ := trodAll_nil h
    exact trodAll_mk0
  | t :: ts, vs, ds, ps, ht, h, hp => by
    obtain ⟨v0, vs0, d0, ds0, p0, q0, rfl, rfl, rfl, h0, r0⟩ := trodAll_cons h
    obtain ⟨hr, hrow⟩ := ht t (List.mem_cons_self ..)
    exact trodAll_cons_mk (Below.trod t_laidOut hr hrow h0 hb fun x hx => hp x (List.mem_append_left _ hx))
      (trodAll_under hb ts vs0 ds0 q0 (fun t' h' => ht t' (List.mem_cons_of_mem _ h')) r0 fun x hx => hp x (List.mem_append_right _ hx))

theorem t_size : 39 < Try.prog.types.size := of_decide_eq_true (by kernel_rfl)
theorem params_ok (t : Nat) (h : t = 3 ∨ t = 5 ∨ t = 22 ∨ t = 23 ∨ t = 39) : Try.prog.readableRec t = true ∧ t < Try.prog.types.size := by
  have := t_size
  rcases h with rfl | rfl | rfl | rfl | rfl <;> exact ⟨by kernel_rfl, by omega⟩

/-- What a law leaves: true, all that was there as it was. -/
def Holds (w : World) (e : Ending) (w' : World) : Prop := e = .returned (.bool true) ∧ Below w.heap.size w w'

/-- A law's post out of its walk. -/
theorem post_of_holds {H : Type} {enc : TypeId × Value → H} {f : Func} {s : ChangeSpec} {W W' : World} {args : Array Value} {ds gs : List (DataW H)} {before : List MemPlace}
    (hW : DataW.Whole enc Try.prog f.params.toList s.vars false W args.toList ds gs before) (hr : f.resultTypes = #[4]) (hv : s.vars = [])
    (hp : ∀ t ∈ f.params.toList, Try.prog.readableRec t = true ∧ t < Try.prog.types.size)
    (hfn : (s.fn H ds).results = [.lit (.bool true)] ∧ (s.fn H ds).args = ds ∧ (s.fn H ds).vars = []) (hb : Below W.heap.size W W') :
    s.post enc Try.prog f false true false false W args (.bool true) W' := by
  have hW' := hW
  obtain ⟨p, q, hA, hV, rfl, _, _⟩ := hW
  rw [hv] at hV
  obtain ⟨rfl, rfl⟩ : gs = [] ∧ q = [] := by
    cases gs with
    | nil => exact ⟨rfl, hV⟩
    | cons g r => exact absurd hV (by intro h; cases h)
  obtain ⟨h1, h2, h3⟩ := hfn
  refine ⟨_, _, _, [], p, [], hW', ?_, ?_, ?_, hb.frame _, fun h => by cases h⟩
  · rw [List.append_nil, h1, hr]; exact trodAll_mk1 (shut_bool Try.underlying4 true)
  · rw [List.append_nil, h2]
    exact trodAll_under hb _ _ _ _ hp hA fun x hx => by simpa using hW'.lt x (by simpa using hx)
  · rw [List.append_nil, h3, hv]; rfl

theorem u8_is {n : Int} (h : (Lit.int .u8 n).wf = true) : ∃ c : UInt8, n = (c.toNat : Int) := by
  have hb := bounds_u8 h
  refine ⟨UInt8.ofNat n.toNat, ?_⟩
  rw [UInt8.toNat_ofNat', Nat.mod_eq_of_lt (by omega)]
  omega
theorem u64_is {n : Int} (h : (Lit.int .u64 n).wf = true) : ∃ k : Nat, k < 18446744073709551616 ∧ n = (k : Int) := by
  have hb := bounds_u64 h
  exact ⟨n.toNat, by omega, by omega⟩

/-- A call that came in. -/
structure Ac where
  kind : Int
  at_ : Int
  n : Int
  b : UInt8
  keep : Nat

instance : Inhabited Ac := ⟨⟨0, 0, 0, 0, 0⟩⟩
/-- Its five cells lie there. -/
structure Lies (w : World) (b k : Nat) (x : Ac) : Prop where
  c0 : w.cell? ⟨b, k, none⟩ = some (.int .i64 x.kind)
  c1 : w.cell? ⟨b, k + 1, none⟩ = some (.int .i64 x.at_)
  c2 : w.cell? ⟨b, k + 2, none⟩ = some (.int .i64 x.n)
  c3 : w.cell? ⟨b, k + 3, none⟩ = some (.int .u8 (x.b.toNat : Int))
  c4 : w.cell? ⟨b, k + 4, none⟩ = some (.int .u64 (x.keep : Int))
  bd : x.n ≤ 9223372036854775807 ∧ x.keep < 18446744073709551616

theorem t_cells41 : Try.prog.cellsOf 41 = 5 := by kernel_rfl
theorem t_cells3 : Try.prog.cellsOf 3 = 1 := by kernel_rfl
theorem t_cells5 : Try.prog.cellsOf 5 = 1 := by kernel_rfl
theorem t_cells39 : Try.prog.cellsOf 39 = 1 := by kernel_rfl

/-- A list of calls that came in: none, or they lie one behind the other. -/
def Acts (w : World) (v : Value) : Prop := (∃ (A : Option Addr) (c : Nat), v = .slice A 0 c) ∨ ∃ (b off c : Nat) (xs : List Ac), v = .slice (some ⟨b, off, none⟩) xs.length c ∧ xs.length ≤ maxLen ∧ 0 < xs.length ∧ b < w.heap.size ∧ ∀ i (hi : i < xs.length), Lies w b (off + i * 5) xs[i]

theorem addr_add (b off : Nat) : ∀ i, (⟨b, off, none⟩ : Addr).add i = ⟨b, off + i, none⟩ := fun i => by unfold Addr.add; split <;> simp_all
theorem open_acts {H : Type} {enc : TypeId × Value → H} {W : World} {base : Nat} {v : Value} {d : DataW H} {ps : List MemPlace} (hok : Value.okWide Try.prog W .any base 23 v) (h : DataW.Trod enc Try.prog W 0 (fun _ => true) true 23 v d ps) : Acts W v := by
  obtain ⟨a, len, cap, rfl⟩ := okWide_slice Try.underlying23 hok
  obtain ⟨fuel, hf⟩ := h
  rcases Go.Deep.open_slice Try.underlying23 hf with ⟨h0, _⟩ | ⟨a', len', cap', m, n, D, Pl, h0, _, hl, hm, hmm, _, hcell⟩
  · obtain ⟨rfl, rfl, rfl⟩ : a = none ∧ len = 0 ∧ cap = 0 := by simpa [Value.cells] using h0
    exact .inl ⟨none, 0, rfl⟩
  · obtain ⟨rfl, rfl, rfl⟩ : a = some a' ∧ len = len' ∧ cap = cap' := by simpa [Value.cells] using h0
    rcases Nat.eq_zero_or_pos len with h5 | h5
    · subst h5
      exact .inl ⟨_, _, rfl⟩
    have hm' : m = cap := by simpa using hmm
    subst hm'
    have each : ∀ i, i < len → ∃ q : Ac, W.cell? (a'.add (i * 5)) = some (.int .i64 q.kind) ∧ W.cell? (a'.add (i * 5 + 1)) = some (.int .i64 q.at_) ∧ W.cell? (a'.add (i * 5 + 2)) = some (.int .i64 q.n) ∧
        W.cell? (a'.add (i * 5 + 3)) = some (.int .u8 (q.b.toNat : Int)) ∧ W.cell? (a'.add (i * 5 + 4)) = some (.int .u64 (q.keep : Int)) ∧ q.n ≤ 9223372036854775807 ∧ q.keep < 18446744073709551616 := by
      intro i hi
      obtain ⟨cs, c1, t1⟩ := hcell i (by omega)
      rw [t_cells41] at c1
      obtain ⟨_, hlen, hc⟩ := World.cells?_some c1
      obtain ⟨xs, k, hk, _, _, hxl, hfs⟩ := DataW.trod_struct Try.underlying41 t1
      match xs, hxl, cs, hlen with
      | [y0, y1, y2, y3, y4], _, [v0, v1, v2, v3, v4], _ =>
        have g0 := hfs 0 _ rfl
        have g1 := hfs 1 _ rfl
        have g2 := hfs 2 _ rfl
        have g3 := hfs 3 _ rfl
        have g4 := hfs 4 _ rfl
        simp [t_cells3, t_cells5, t_cells39] at g0 g1 g2 g3 g4
        have e0 := hc 0 (by omega)
        have e1 := hc 1 (by omega)
        have e2 := hc 2 (by omega)
        have e3 := hc 3 (by omega)
        have e4 := hc 4 (by omega)
        rw [Go.Deep.add_add] at e0 e1 e2 e3 e4
        simp at e0 e1 e2 e3 e4
        obtain ⟨x0, f0, _, _⟩ := DataW.trod_int Try.underlying3 g0
        obtain ⟨x1, f1, _, _⟩ := DataW.trod_int Try.underlying3 g1
        obtain ⟨x2, f2, _, w2⟩ := DataW.trod_int Try.underlying3 g2
        obtain ⟨x3, f3, _, w3⟩ := DataW.trod_int Try.underlying5 g3
        obtain ⟨x4, f4, _, w4⟩ := DataW.trod_int Try.underlying39 g4
        simp at f0 f1 f2 f3 f4
        subst f0 f1 f2 f3 f4
        obtain ⟨c, rfl⟩ := u8_is w3
        obtain ⟨q, hq, rfl⟩ := u64_is w4
        exact ⟨⟨x0, x1, x2, c, q⟩, e0, e1, e2, e3, e4, (bounds_i64 w2).2, hq⟩
    obtain ⟨q, hq⟩ := Go.Deep.choose_lt each
    obtain ⟨b, off, spot⟩ := a'
    have h1 := (hq 0 h5).1
    have hspot : spot = none := by simpa [Addr.add] using World.cell?_spot h1
    subst hspot
    have hadd := addr_add b off
    refine .inr ⟨b, off, m, (List.range len).map q, by simp, by simp; omega, by simpa using h5, ?_, fun i hi => ?_⟩
    · rw [hadd] at h1
      rcases Nat.lt_or_ge b W.heap.size with hlt | hge
      · exact hlt
      · simp [World.cell?, Array.getElem?_eq_none hge] at h1
    · have hi' : i < len := by simpa using hi
      have h2 := hq i hi'
      simp only [hadd] at h2
      obtain ⟨a0, a1, a2, a3, a4, a5, a6⟩ := h2
      simp only [List.getElem_map, List.getElem_range]
      exact ⟨a0, a1, a2, a3, a4, a5, a6⟩
end Go.Proofs.Ytffnalnceceinaa
