/-
  From a law's walk to its given row: a state, a view that came in; the arguments as they were.
-/
import Derived.Test.YtmodacieflcheaaAwak
import Derived.Test.YtmodacieflcheaaRows
import Derived.ChangeSame
import Derived.WideKeyArr2
import Derived.ChangeVars
import Derived.JoinedOf
import Derived.RowKit
import Derived.RowKitTokens
import Derived.LaidLaws
import Derived.Stop.Joined
import Derived.Carry
import Derived.ProofKit
import Derived.OpenShut
import Derived.ChangeMaps5
import Derived.Deep.Slices
namespace Go.Proofs.Ytmodacieflcheaa
open Go.ChangeShapes Go.WideShapes Go.ChangeAt Go.RowKit

theorem t_own : ownKnob Try.prog.godebug = none := by kernel_rfl
theorem t_laidOut : laidOutB Try.prog = true := by kernel_rfl

/-- All arguments read behind the call as they did. -/
theorem trodAll_under {H : Type} {enc : TypeId × Value → H} {W W' : World} (hb : Below W.heap.size W W') : ∀ (ts : List TypeId) (vs : List Value) (ds : List (DataW H)) (ps : List MemPlace),
    (∀ t ∈ ts, Try.prog.readableRec t = true ∧ t < Try.prog.types.size) → DataW.TrodAll enc Try.prog W 0 (fun _ => true) true ts vs ds ps → (∀ x ∈ ps, x.block < W.heap.size) →
    DataW.TrodAll enc Try.prog W' 0 (fun b => decide (b < W.heap.size)) true ts vs ds ps
  | [], vs, ds, ps, _, h, _ => by
    obtain ⟨rfl, rfl, rfl⟩ := trodAll_nil h
    exact trodAll_mk0
  | t :: ts, vs, ds, ps, ht, h, hp => by
    obtain ⟨v0, vs0, d0, ds0, p0, q0, rfl, rfl, rfl, h0, r0⟩ := trodAll_cons h
    obtain ⟨hr, hrow⟩ := ht t (List.mem_cons_self ..)
    exact trodAll_cons_mk (Below.trod t_laidOut hr hrow h0 hb fun x hx => hp x (List.mem_append_left _ hx))
      (trodAll_under hb ts vs0 ds0 q0 (fun t' h' => ht t' (List.mem_cons_of_mem _ h')) r0 fun x hx => hp x (List.mem_append_right _ hx))

theorem t_size : 27 < Try.prog.types.size := of_decide_eq_true (by kernel_rfl)
theorem params_ok (t : Nat) (h : t = 3 ∨ t = 22 ∨ t = 25 ∨ t = 27) : Try.prog.readableRec t = true ∧ t < Try.prog.types.size := by
  have := t_size
  rcases h with rfl | rfl | rfl | rfl <;> exact ⟨by kernel_rfl, by omega⟩

/-- What a law leaves: true, all that was there as it was. -/
def Holds (w : World) (e : Ending) (w' : World) : Prop := e = .returned (.bool true) ∧ Below w.heap.size w w'

/-- A law's post out of its walk. -/
theorem post_of_holds {H : Type} {enc : TypeId × Value → H} {f : Func} {s : ChangeSpec} {W W' : World} {args : Array Value} {ds gs : List (DataW H)} {before : List MemPlace}
    (hW : DataW.Whole enc Try.prog f.params.toList s.vars false W args.toList ds gs before) (hr : f.resultTypes = #[4]) (hv : s.vars = [])
    (hp : ∀ t ∈ f.params.toList, Try.prog.readableRec t = true ∧ t < Try.prog.types.size)
    (hfn : (s.fn H ds).results = [.lit (.bool true)] ∧ (s.fn H ds).args = ds ∧ (s.fn H ds).vars = []) (hb : Below W.heap.size W W') :
    s.post enc Try.prog f false true false false W args (.bool true) W' := by
  have hW' := hW
  obtain ⟨p, q, hA, hV, rfl, _, _⟩ := hW
  rw [hv] at hV
  obtain ⟨rfl, rfl⟩ : gs = [] ∧ q = [] := by
    cases gs with
    | nil => exact ⟨rfl, hV⟩
    | cons g r => exact absurd hV (by intro h; cases h)
  obtain ⟨h1, h2, h3⟩ := hfn
  refine ⟨_, _, _, [], p, [], hW', ?_, ?_, ?_, hb.frame _, fun h => by cases h⟩
  · rw [List.append_nil, h1, hr]; exact trodAll_mk1 (shut_bool Try.underlying4 true)
  · rw [List.append_nil, h2]
    exact trodAll_under hb _ _ _ _ hp hA fun x hx => by simpa using hW'.lt x (by simpa using hx)
  · rw [List.append_nil, h3, hv]; rfl

section
variable {H : Type} {enc : TypeId × Value → H} {W : World} {sp : Nat → Bool} {hd : Bool} {n : Nat}
theorem one_int {v : Value} {x : DataW H × List MemPlace} (h : DataW.trod enc Try.prog W 0 sp hd n 3 [v] = some x) : ∃ a, v = .int .i64 a ∧ Fits a := by
  obtain ⟨a, h1, _, h2⟩ := DataW.trod_int Try.underlying3 h
  exact ⟨a, by simpa using h1, bounds_i64 h2⟩
theorem one_bool {v : Value} {x : DataW H × List MemPlace} (h : DataW.trod enc Try.prog W 0 sp hd n 4 [v] = some x) : ∃ a, v = .bool a := by
  obtain ⟨a, h1, _⟩ := DataW.trod_bool Try.underlying4 h
  exact ⟨a, by simpa using h1⟩
theorem two_ints {u v : Value} {x : DataW H × List MemPlace} (h : DataW.trod enc Try.prog W 0 sp hd n 22 [u, v] = some x) : ∃ a b, u = .int .i64 a ∧ v = .int .i64 b ∧ Fits a ∧ Fits b := by
  obtain ⟨xs, m, _, _, _, hl, he⟩ := DataW.trod_array Try.underlying22 h
  match xs, hl with
  | [y0, y1], _ =>
    have g0 := he 0 (by decide)
    have g1 := he 1 (by decide)
    simp [c3] at g0 g1
    obtain ⟨a, rfl, ha⟩ := one_int g0
    obtain ⟨b, rfl, hb⟩ := one_int g1
    exact ⟨a, b, rfl, rfl, ha, hb⟩
theorem two_bools {u v : Value} {x : DataW H × List MemPlace} (h : DataW.trod enc Try.prog W 0 sp hd n 23 [u, v] = some x) : ∃ a b, u = .bool a ∧ v = .bool b := by
  obtain ⟨xs, m, _, _, _, hl, he⟩ := DataW.trod_array Try.underlying23 h
  match xs, hl with
  | [y0, y1], _ =>
    have g0 := he 0 (by decide)
    have g1 := he 1 (by decide)
    simp [c4] at g0 g1
    obtain ⟨a, rfl⟩ := one_bool g0
    obtain ⟨b, rfl⟩ := one_bool g1
    exact ⟨a, b, rfl, rfl⟩
end
/-- Twelve cells that read as a state. -/
theorem open_cells25 {H : Type} {enc : TypeId × Value → H} {W : World} {sp : Nat → Bool} {hd : Bool} {n : Nat} {l : List Value} (hl12 : l.length = 12) {x : DataW H × List MemPlace} (h : DataW.trod enc Try.prog W 0 sp hd n 25 l = some x) : ∃ s, l = (stC s).toList ∧ FitsS s := by
  match l, hl12 with
  | [s0, s1, s2, s3, s4, s5, s6, s7, s8, s9, s10, s11], _ =>
    obtain ⟨xs, m, _, _, _, hl, hf⟩ := DataW.trod_struct Try.underlying25 h
    match xs, hl with
    | [y0, y1, y2, y3, y4, y5, y6, y7, y8], _ =>
      have g0 := hf 0 _ rfl
      have g1 := hf 1 _ rfl
      have g2 := hf 2 _ rfl
      have g3 := hf 3 _ rfl
      have g4 := hf 4 _ rfl
      have g5 := hf 5 _ rfl
      have g6 := hf 6 _ rfl
      have g7 := hf 7 _ rfl
      have g8 := hf 8 _ rfl
      simp [c3, c22, c23] at g0 g1 g2 g3 g4 g5 g6 g7 g8
      obtain ⟨ph, rfl, h0⟩ := one_int g0
      obtain ⟨ac, rfl, h1⟩ := one_int g1
      obtain ⟨r0, r1, rfl, rfl, h2, h3⟩ := two_ints g2
      obtain ⟨w0, w1, rfl, rfl, h4, h5⟩ := two_ints g3
      obtain ⟨p0, p1, rfl, rfl⟩ := two_bools g4
      obtain ⟨dl, rfl, h6⟩ := one_int g5
      obtain ⟨gn, rfl, h7⟩ := one_int g6
      obtain ⟨sw, rfl, h8⟩ := one_int g7
      obtain ⟨fl, rfl, h9⟩ := one_int g8
      exact ⟨⟨ph, ac, r0, r1, w0, w1, p0, p1, dl, gn, sw, fl⟩, rfl, ⟨h0, h1, h2, h3, h4, h5, h6, h7, h8, h9⟩⟩
/-- Four cells that read as a view. -/
theorem open_cells27 {H : Type} {enc : TypeId × Value → H} {W : World} {sp : Nat → Bool} {hd : Bool} {n : Nat} {l : List Value} (hl : l.length = 4) {x : DataW H × List MemPlace} (h : DataW.trod enc Try.prog W 0 sp hd n 27 l = some x) : ∃ v, l = (vwC v).toList ∧ FitsV v := by
  match l, hl with
  | [v0, v1, v2, v3], _ =>
    obtain ⟨xs, m, _, _, _, hl, hfs⟩ := DataW.trod_struct Try.underlying27 h
    match xs, hl with
    | [y0, y1], _ =>
      have g0 := hfs 0 _ rfl
      have g1 := hfs 1 _ rfl
      simp [c22] at g0 g1
      obtain ⟨a0, a1, rfl, rfl, h0, h1⟩ := two_ints g0
      obtain ⟨b0, b1, rfl, rfl, h2, h3⟩ := two_ints g1
      exact ⟨⟨a0, a1, b0, b1⟩, rfl, ⟨h0, h1, h2, h3⟩⟩
/-- A state that came in. -/
theorem open_state {H : Type} {enc : TypeId × Value → H} {W : World} {base : Nat} {v : Value} {d : DataW H} {ps : List MemPlace} (hok : Value.okWide Try.prog W .any base 25 v) (h : DataW.Trod enc Try.prog W 0 (fun _ => true) true 25 v d ps) : ∃ s, v = stV s ∧ FitsS s := by
  obtain ⟨cs, rfl, hsz⟩ := okWide_struct Try.underlying25 hok
  obtain ⟨fuel, hf⟩ := h
  obtain ⟨l⟩ := cs
  obtain ⟨s, hs, hfit⟩ := open_cells25 (by rw [c25] at hsz; exact hsz) (show DataW.trod enc Try.prog W 0 (fun _ => true) true fuel 25 l = some (d, ps) from hf)
  exact ⟨s, by rw [hs]; rfl, hfit⟩
theorem co27 : Try.prog.cellsOf 27 = 4 := by kernel_rfl
/-- A view that came in. -/
theorem open_view {H : Type} {enc : TypeId × Value → H} {W : World} {base : Nat} {v : Value} {d : DataW H} {ps : List MemPlace} (hok : Value.okWide Try.prog W .any base 27 v) (h : DataW.Trod enc Try.prog W 0 (fun _ => true) true 27 v d ps) : ∃ x, v = vwV x ∧ FitsV x := by
  obtain ⟨cs, rfl, hsz⟩ := okWide_struct Try.underlying27 hok
  obtain ⟨fuel, hf⟩ := h
  obtain ⟨l⟩ := cs
  obtain ⟨o, ho, hfit⟩ := open_cells27 (by rw [co27] at hsz; exact hsz) (show DataW.trod enc Try.prog W 0 (fun _ => true) true fuel 27 l = some (d, ps) from hf)
  exact ⟨o, by rw [ho]; rfl, hfit⟩
theorem arr22 : Go.WideMaps.ArrKey Try.prog 22 3 2 := ⟨Try.underlying22, by kernel_rfl, by kernel_rfl, by kernel_rfl⟩
/-- Two numbers that came in. -/
theorem open_two {H : Type} {enc : TypeId × Value → H} {W : World} {base : Nat} {v : Value} {d : DataW H} {ps : List MemPlace} (hok : Value.okWide Try.prog W .any base 22 v) (h : DataW.Trod enc Try.prog W 0 (fun _ => true) true 22 v d ps) : ∃ a b : Int, v = .agg #[.int .i64 a, .int .i64 b] ∧ Fits a ∧ Fits b := by
  obtain ⟨xs, rfl, hx⟩ := Go.WideMaps.okWide_arr arr22 hok
  obtain ⟨fuel, hf⟩ := h
  match xs, hx with
  | ⟨[x0, x1]⟩, _ =>
    obtain ⟨a, b, rfl, rfl, h0, h1⟩ := two_ints (show DataW.trod enc Try.prog W 0 (fun _ => true) true fuel 22 [x0, x1] = some (d, ps) from hf)
    exact ⟨a, b, rfl, h0, h1⟩
theorem open_int {H : Type} {enc : TypeId × Value → H} {W : World} {base : Nat} {v : Value} {d : DataW H} {ps : List MemPlace} (hok : Value.okWide Try.prog W .any base 3 v) (h : DataW.Trod enc Try.prog W 0 (fun _ => true) true 3 v d ps) : ∃ a, v = .int .i64 a ∧ Fits a := by
  obtain ⟨a, rfl⟩ := okWide_int Try.underlying3 hok
  obtain ⟨fuel, hf⟩ := h
  exact one_int (show DataW.trod enc Try.prog W 0 (fun _ => true) true fuel 3 [.int .i64 a] = some (d, ps) from hf)
end Go.Proofs.Ytmodacieflcheaa
