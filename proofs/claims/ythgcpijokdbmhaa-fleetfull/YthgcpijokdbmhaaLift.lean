/-
  From a law's walk to its given row: what came in, the arguments as they were.
-/
import Derived.Test.YthgcpijokdbmhaaAwak
import Derived.Deep.LoopGhost
import Derived.WideKeyArr2
import Derived.Deep.SlicePairs
namespace Go.Proofs.Ythgcpijokdbmhaa
open Go.ChangeShapes Go.WideShapes Go.ChangeAt Go.RowKit

theorem t_own : ownKnob Try.prog.godebug = none := by kernel_rfl
theorem t_laidOut : laidOutB Try.prog = true := by kernel_rfl

/-- All arguments read behind the call as they did. -/
theorem trodAll_under {H : Type} {enc : TypeId × Value → H} {W W' : World} (hb : Below W.heap.size W W') : ∀ (ts : List TypeId) (vs : List Value) (ds : List (DataW H)) (ps : List MemPlace),
    (∀ t ∈ ts, Try.prog.readableRec t = true ∧ t < Try.prog.types.size) → DataW.TrodAll enc Try.prog W 0 (fun _ => true) true ts vs ds ps → (∀ x ∈ ps, x.block < W.heap.size) →
    DataW.TrodAll enc Try.prog W' 0 (fun b => decide (b < W.heap.size)) true ts vs ds ps
  | [], vs, ds, ps, _, h, _ => by
    obtain ⟨rfl, rfl, rfl⟩ := trodAll_nil h
    exact trodAll_mk0
  | t :: ts, vs, ds, ps, ht, h, hp => by
    obtain ⟨v0, vs0, d0, ds0, p0, q0, rfl, rfl, rfl, h0, r0⟩ := trodAll_cons h
    obtain ⟨hr, hrow⟩ := ht t (List.mem_cons_self ..)
    exact trodAll_cons_mk (Below.trod t_laidOut hr hrow h0 hb fun x hx => hp x (List.mem_append_left _ hx))
      (trodAll_under hb ts vs0 ds0 q0 (fun t' h' => ht t' (List.mem_cons_of_mem _ h')) r0 fun x hx => hp x (List.mem_append_right _ hx))

theorem t_size : 28 < Try.prog.types.size := of_decide_eq_true (by kernel_rfl)
theorem params_ok (t : Nat) (h : t = 3 ∨ t = 22 ∨ t = 28) : Try.prog.readableRec t = true ∧ t < Try.prog.types.size := by
  have := t_size
  rcases h with rfl | rfl | rfl <;> exact ⟨by kernel_rfl, by omega⟩

/-- What a law leaves: true, all that was there as it was. -/
def Holds (w : World) (e : Ending) (w' : World) : Prop := e = .returned (.bool true) ∧ Below w.heap.size w w'

/-- A law's post out of its walk. -/
theorem post_of_holds {H : Type} {enc : TypeId × Value → H} {f : Func} {s : ChangeSpec} {W W' : World} {args : Array Value} {ds gs : List (DataW H)} {before : List MemPlace}
    (hW : DataW.Whole enc Try.prog f.params.toList s.vars false W args.toList ds gs before) (hr : f.resultTypes = #[4]) (hv : s.vars = [])
    (hp : ∀ t ∈ f.params.toList, Try.prog.readableRec t = true ∧ t < Try.prog.types.size)
    (hfn : (s.fn H ds).results = [.lit (.bool true)] ∧ (s.fn H ds).args = ds ∧ (s.fn H ds).vars = []) (hb : Below W.heap.size W W') :
    s.post enc Try.prog f false true false false W args (.bool true) W' := by
  have hW' := hW
  obtain ⟨p, q, hA, hV, rfl, _, _⟩ := hW
  rw [hv] at hV
  obtain ⟨rfl, rfl⟩ : gs = [] ∧ q = [] := by
    cases gs with
    | nil => exact ⟨rfl, hV⟩
    | cons g r => exact absurd hV (by intro h; cases h)
  obtain ⟨h1, h2, h3⟩ := hfn
  refine ⟨_, _, _, [], p, [], hW', ?_, ?_, ?_, hb.frame _, fun h => by cases h⟩
  · rw [List.append_nil, h1, hr]; exact trodAll_mk1 (shut_bool Try.underlying4 true)
  · rw [List.append_nil, h2]
    exact trodAll_under hb _ _ _ _ hp hA fun x hx => by simpa using hW'.lt x (by simpa using hx)
  · rw [List.append_nil, h3, hv]; rfl


theorem arr28 : Go.WideMaps.ArrKey Try.prog 28 3 2 := ⟨Try.underlying28, by kernel_rfl, by kernel_rfl, by kernel_rfl⟩
/-- Two numbers that came in. -/
theorem open_two {H : Type} {enc : TypeId × Value → H} {W : World} {base : Nat} {v : Value} {d : DataW H} {ps : List MemPlace} (hok : Value.okWide Try.prog W .any base 28 v) (h : DataW.Trod enc Try.prog W 0 (fun _ => true) true 28 v d ps) : ∃ a b : Int, v = .agg #[.int .i64 a, .int .i64 b] ∧ Fits a ∧ Fits b := by
  obtain ⟨xs, rfl, hx⟩ := Go.WideMaps.okWide_arr arr28 hok
  obtain ⟨fuel, hf⟩ := h
  obtain ⟨ys, n, _, _, hl, hyl, hi⟩ := DataW.trod_array Try.underlying28 hf
  match xs, hx with
  | ⟨[x0, x1]⟩, _ =>
    match ys, hyl with
    | [y0, y1], _ =>
      have g0 := hi 0 (by omega)
      have g1 := hi 1 (by omega)
      simp [k3, Value.cells] at g0 g1
      obtain ⟨a, rfl, w0⟩ := one_int g0
      obtain ⟨b, rfl, w1⟩ := one_int g1
      exact ⟨a, b, rfl, w0, w1⟩
theorem open_int {H : Type} {enc : TypeId × Value → H} {W : World} {base : Nat} {v : Value} {d : DataW H} {ps : List MemPlace} (hok : Value.okWide Try.prog W .any base 3 v) (h : DataW.Trod enc Try.prog W 0 (fun _ => true) true 3 v d ps) : ∃ a, v = .int .i64 a ∧ Fits a := by
  obtain ⟨a, rfl⟩ := okWide_int Try.underlying3 hok
  obtain ⟨fuel, hf⟩ := h
  exact one_int (show DataW.trod enc Try.prog W 0 (fun _ => true) true fuel 3 [.int .i64 a] = some (d, ps) from hf)
end Go.Proofs.Ythgcpijokdbmhaa
