/-
  From a law's walk to its given row and card: the listed variable's cells, a world that meets the condition, a record that came in, the arguments as they were.
-/
import Derived.Test.YthombepmlepgfaaDoorAwak
import Derived.Test.YthombepmlepgfaaDoorTie
import Derived.Test.YthombepmlepgfaaDoorCards
import Derived.ChangeSame
import Derived.ChangeVars
import Derived.JoinedOf
import Derived.RowKit
import Derived.RowKitTokens
import Derived.LaidLaws
import Derived.LaidHandle
import Derived.LaidMore
import Derived.Stop.Joined
import Derived.Carry
import Derived.SevenTiedAt
import Derived.ProofKit
import Derived.OpenShut
import Derived.ChangeMaps5
namespace Go.Proofs.YthombepmlepgfaaDoor
open Go.ChangeShapes Go.WideShapes Go.ChangeAt Go.RowKit

theorem t_own : ownKnob Tryd.prog.godebug = none := by kernel_rfl
theorem t_laidOut : laidOutB Tryd.prog = true := by kernel_rfl
theorem t_size : Tryd.prog.types.size = 91 := by kernel_rfl
theorem g_reach : Tryd.prog.globalNamed "switchback/intent.reaches" = some 0 := by kernel_rfl
theorem g_type : (Tryd.prog.globals[0]?).map (·.type) = some 67 := by kernel_rfl
theorem c66 : Tryd.prog.cellsOf 66 = 2 := by kernel_rfl
theorem c67 : Tryd.prog.cellsOf 67 = 36 := by kernel_rfl

def laidList : List (String × DataW Unit) := [("switchback/intent.reaches", Rows.laid_switchback_intent_reaches)]
def rowD {H : Type} (f : Nat) : DataW H := .agg [.lit (.int .i64 (at_ los f)), .lit (.int .i64 (at_ his f))]
theorem laid_rows {H : Type} : (Rows.laid_switchback_intent_reaches : DataW H) = .agg ((List.range 18).map rowD) := rfl
/-- What the condition gives a walk: the table of ranges. -/
theorem gl_of_laid {W : World} (h : laidMetH Tryd.prog laidList W) : Gl W := by
  rw [MakeChecks.laidMetH_plain _ _ _ (by kernel_rfl)] at h
  obtain ⟨ps, ⟨g0, t0, cs0, f0, p0, q0, hg0, ht0, hv0, hd0, _, _⟩, _, _⟩ := h
  obtain rfl := Option.some.inj (g_reach.symm.trans hg0)
  obtain rfl := Option.some.inj (g_type.symm.trans ht0)
  have hcell := fun i => World.var?_cell hg0 hv0 i
  rw [laid_rows] at hd0
  obtain ⟨xs, m1, rfl, hx1, hlen, hn, hel⟩ := DataW.trod_array Tryd.underlying67 hd0
  simp only [Prod.mk.injEq, DataW.agg.injEq] at hx1
  have key : ∀ f, f < 18 → cs0[f * 2]? = some (.int .i64 (at_ los f)) ∧ cs0[f * 2 + 1]? = some (.int .i64 (at_ his f)) := by
    intro f hf
    have h1 := hel f hf
    have hfl : f < xs.length := by omega
    rw [List.getElem?_eq_getElem hfl] at h1
    have h2 : xs[f].1 = rowD f := by
      have h3 : (xs.map (·.1))[f]? = ((List.range 18).map rowD)[f]? := by rw [hx1.1]
      simpa [hfl, hf] using h3
    rw [c66] at h1
    obtain ⟨y0, y1, n, hy, hl2, g0, g1⟩ := trod_struct2 Tryd.underlying66 h1
    obtain ⟨a, e1, e2, _⟩ := DataW.trod_int Tryd.underlying3 g0
    obtain ⟨b, e3, e4, _⟩ := DataW.trod_int Tryd.underlying3 g1
    rw [hy, e2, e4] at h2
    simp [rowD] at h2
    obtain ⟨rfl, rfl⟩ := h2
    rw [c3] at e1 e3
    have hln : cs0.toList.length = 36 := by rw [hlen, c67]
    have hl3 : f * 2 + 1 < cs0.toList.length := by omega
    have d0 : (cs0.toList.drop (f * 2))[0]? = some (.int .i64 (at_ los f)) := by
      have h4 := congrArg (fun l => l[0]?) e1
      simpa using h4
    have d1 : (cs0.toList.drop (f * 2))[1]? = some (.int .i64 (at_ his f)) := by
      have h4 := congrArg (fun l => l[0]?) e3
      simpa using h4
    exact ⟨by simpa using d0, by simpa using d1⟩
  have h0 := (hcell 0).trans (key 0 (by omega)).1
  refine ⟨?_, fun f hf => ⟨(hcell _).trans (key f hf).1, (hcell _).trans (key f hf).2⟩⟩
  exact block_lt_of_cell h0

/-- A world that meets the condition. -/
noncomputable def laidWorld (os : Os) : World := World.doorLaid Tryd.prog 400 os
theorem laidWorld_met (os : Os) (args : Array Value) : laidMetH Tryd.prog laidList ((laidWorld os).forCall (fun _ _ => 0) ⟨#[], args, []⟩).memory :=
  laidMetH_of_parts3 (fuel := 8) (laidMet_of_run' 8 (by kernel_rfl) (by kernel_rfl)) (by kernel_rfl) (by kernel_rfl)

/-- All arguments read behind the call as they did. -/
theorem trodAll_under {H : Type} {enc : TypeId × Value → H} {W W' : World} (hb : Below W.heap.size W W') : ∀ (ts : List TypeId) (vs : List Value) (ds : List (DataW H)) (ps : List MemPlace),
    (∀ t ∈ ts, Tryd.prog.readableRec t = true ∧ t < Tryd.prog.types.size) → DataW.TrodAll enc Tryd.prog W 0 (fun _ => true) true ts vs ds ps → (∀ x ∈ ps, x.block < W.heap.size) →
    DataW.TrodAll enc Tryd.prog W' 0 (fun b => decide (b < W.heap.size)) true ts vs ds ps
  | [], vs, ds, ps, _, h, _ => by
    obtain ⟨rfl, rfl, rfl⟩ := trodAll_nil h
    exact trodAll_mk0
  | t :: ts, vs, ds, ps, ht, h, hp => by
    obtain ⟨v0, vs0, d0, ds0, p0, q0, rfl, rfl, rfl, h0, r0⟩ := trodAll_cons h
    obtain ⟨hr, hrow⟩ := ht t (List.mem_cons_self ..)
    exact trodAll_cons_mk (Below.trod t_laidOut hr hrow h0 hb fun x hx => hp x (List.mem_append_left _ hx))
      (trodAll_under hb ts vs0 ds0 q0 (fun t' h' => ht t' (List.mem_cons_of_mem _ h')) r0 fun x hx => hp x (List.mem_append_right _ hx))

theorem params_ok (t : Nat) (h : t = 3 ∨ t = 9 ∨ t = 27) : Tryd.prog.readableRec t = true ∧ t < Tryd.prog.types.size := by
  rw [t_size]
  rcases h with rfl | rfl | rfl <;> exact ⟨by kernel_rfl, by decide⟩
theorem params_plain (t : Nat) (h : t = 3 ∨ t = 9 ∨ t = 27) : Tryd.prog.wantsStandIn t = false := by
  rcases h with rfl | rfl | rfl <;> kernel_rfl

/-- What a law leaves: true, all that was there as it was. -/
def Holds (w : World) (e : Ending) (w' : World) : Prop := e = .returned (.bool true) ∧ Below w.heap.size w w'

/-- A law's post out of its walk. -/
theorem post_of_holds {H : Type} {enc : TypeId × Value → H} {f : Func} {s : ChangeSpec} {W W' : World} {args : Array Value} {ds gs : List (DataW H)} {before : List MemPlace}
    (hW : DataW.Whole enc Tryd.prog f.params.toList s.vars false W args.toList ds gs before) (hr : f.resultTypes = #[4]) (hv : s.vars = [])
    (hp : ∀ t ∈ f.params.toList, Tryd.prog.readableRec t = true ∧ t < Tryd.prog.types.size)
    (hfn : (s.fn H ds).results = [.lit (.bool true)] ∧ (s.fn H ds).args = ds ∧ (s.fn H ds).vars = []) (hb : Below W.heap.size W W') :
    s.post enc Tryd.prog f false true false false W args (.bool true) W' := by
  have hW' := hW
  obtain ⟨p, q, hA, hV, rfl, _, _⟩ := hW
  rw [hv] at hV
  obtain ⟨rfl, rfl⟩ : gs = [] ∧ q = [] := by
    cases gs with
    | nil => exact ⟨rfl, hV⟩
    | cons g r => exact absurd hV (by intro h; cases h)
  obtain ⟨h1, h2, h3⟩ := hfn
  refine ⟨_, _, _, [], p, [], hW', ?_, ?_, ?_, hb.frame _, fun h => by cases h⟩
  · rw [List.append_nil, h1, hr]; exact trodAll_mk1 (shut_bool Tryd.underlying4 true)
  · rw [List.append_nil, h2]
    exact trodAll_under hb _ _ _ _ hp hA fun x hx => by simpa using hW'.lt x (by simpa using hx)
  · rw [List.append_nil, h3, hv]; rfl

section
variable {H : Type} {enc : TypeId × Value → H} {W : World} {sp : Nat → Bool} {hd : Bool} {n : Nat}
theorem one_int {v : Value} {x : DataW H × List MemPlace} (h : DataW.trod enc Tryd.prog W 0 sp hd n 3 [v] = some x) : ∃ a, v = .int .i64 a ∧ Fits a := by
  obtain ⟨a, h1, _, h2⟩ := DataW.trod_int Tryd.underlying3 h
  exact ⟨a, by simpa using h1, bounds_i64 h2⟩
theorem one_bool {v : Value} {x : DataW H × List MemPlace} (h : DataW.trod enc Tryd.prog W 0 sp hd n 4 [v] = some x) : ∃ a, v = .bool a := by
  obtain ⟨a, h1, _⟩ := DataW.trod_bool Tryd.underlying4 h
  exact ⟨a, by simpa using h1⟩
theorem two_ints {u v : Value} {x : DataW H × List MemPlace} (h : DataW.trod enc Tryd.prog W 0 sp hd n 22 [u, v] = some x) : ∃ a b, u = .int .i64 a ∧ v = .int .i64 b ∧ Fits a ∧ Fits b := by
  obtain ⟨xs, m, _, _, _, hl, he⟩ := DataW.trod_array Tryd.underlying22 h
  match xs, hl with
  | [y0, y1], _ =>
    have g0 := he 0 (by decide)
    have g1 := he 1 (by decide)
    simp [c3] at g0 g1
    obtain ⟨a, rfl, ha⟩ := one_int g0
    obtain ⟨b, rfl, hb⟩ := one_int g1
    exact ⟨a, b, rfl, rfl, ha, hb⟩
theorem two_bools {u v : Value} {x : DataW H × List MemPlace} (h : DataW.trod enc Tryd.prog W 0 sp hd n 23 [u, v] = some x) : ∃ a b, u = .bool a ∧ v = .bool b := by
  obtain ⟨xs, m, _, _, _, hl, he⟩ := DataW.trod_array Tryd.underlying23 h
  match xs, hl with
  | [y0, y1], _ =>
    have g0 := he 0 (by decide)
    have g1 := he 1 (by decide)
    simp [c4] at g0 g1
    obtain ⟨a, rfl⟩ := one_bool g0
    obtain ⟨b, rfl⟩ := one_bool g1
    exact ⟨a, b, rfl, rfl⟩
end
/-- A state that came in. -/
theorem open_state {H : Type} {enc : TypeId × Value → H} {W : World} {sp : Nat → Bool} {hd : Bool} {n : Nat} {s0 s1 s2 s3 s4 s5 s6 s7 s8 s9 s10 s11 : Value} {x : DataW H × List MemPlace} (h : DataW.trod enc Tryd.prog W 0 sp hd n 25 [s0, s1, s2, s3, s4, s5, s6, s7, s8, s9, s10, s11] = some x) :
    ∃ phase active r0 r1 w0 w1 p0 p1 sdelay sgen sw flip, s0 = .int .i64 phase ∧ s1 = .int .i64 active ∧ s2 = .int .i64 r0 ∧ s3 = .int .i64 r1 ∧ s4 = .int .i64 w0 ∧ s5 = .int .i64 w1 ∧ s6 = .bool p0 ∧ s7 = .bool p1 ∧ s8 = .int .i64 sdelay ∧ s9 = .int .i64 sgen ∧ s10 = .int .i64 sw ∧ s11 = .int .i64 flip ∧
      Fits phase ∧ Fits active ∧ Fits r0 ∧ Fits r1 ∧ Fits w0 ∧ Fits w1 ∧ Fits sdelay ∧ Fits sgen ∧ Fits sw ∧ Fits flip := by
  obtain ⟨xs, m, _, _, _, hl, hf⟩ := DataW.trod_struct Tryd.underlying25 h
  match xs, hl with
  | [y0, y1, y2, y3, y4, y5, y6, y7, y8], _ =>
    have g0 := hf 0 _ rfl
    have g1 := hf 1 _ rfl
    have g2 := hf 2 _ rfl
    have g3 := hf 3 _ rfl
    have g4 := hf 4 _ rfl
    have g5 := hf 5 _ rfl
    have g6 := hf 6 _ rfl
    have g7 := hf 7 _ rfl
    have g8 := hf 8 _ rfl
    simp [c3, c22, c23] at g0 g1 g2 g3 g4 g5 g6 g7 g8
    obtain ⟨phase, rfl, h0⟩ := one_int g0
    obtain ⟨active, rfl, h1⟩ := one_int g1
    obtain ⟨r0, r1, rfl, rfl, h2, h3⟩ := two_ints g2
    obtain ⟨w0, w1, rfl, rfl, h4, h5⟩ := two_ints g3
    obtain ⟨p0, p1, rfl, rfl⟩ := two_bools g4
    obtain ⟨sdelay, rfl, h6⟩ := one_int g5
    obtain ⟨sgen, rfl, h7⟩ := one_int g6
    obtain ⟨sw, rfl, h8⟩ := one_int g7
    obtain ⟨flip, rfl, h9⟩ := one_int g8
    exact ⟨phase, active, r0, r1, w0, w1, p0, p1, sdelay, sgen, sw, flip, rfl, rfl, rfl, rfl, rfl, rfl, rfl, rfl, rfl, rfl, rfl, rfl, h0, h1, h2, h3, h4, h5, h6, h7, h8, h9⟩
/-- A record that came in. -/
theorem open_rec {H : Type} {enc : TypeId × Value → H} {W : World} {base : Nat} {v : Value} {d : DataW H} {ps : List MemPlace} (hok : Value.okWide Tryd.prog W .any base 27 v) (h : DataW.Trod enc Tryd.prog W 0 (fun _ => true) true 27 v d ps) : ∃ r, v = recV r ∧ FitsR r := by
  obtain ⟨cs, rfl, hsz⟩ := okWide_struct Tryd.underlying27 hok
  obtain ⟨fuel, hf⟩ := h
  obtain ⟨l⟩ := cs
  have hf' : DataW.trod enc Tryd.prog W 0 (fun _ => true) true fuel 27 l = some (d, ps) := hf
  have hl19 : l.length = 19 := by rw [c27] at hsz; exact hsz
  clear hf hok hsz
  match l, hl19 with
  | [v0, v1, v2, v3, v4, v5, v6, v7, v8, v9, v10, v11, v12, v13, v14, v15, v16, v17, v18], _ =>
    obtain ⟨xs, m, _, _, _, hl, hfs⟩ := DataW.trod_struct Tryd.underlying27 hf'
    match xs, hl with
    | [y0, y1, y2, y3, y4, y5, y6, y7], _ =>
      have g0 := hfs 0 _ rfl
      have g1 := hfs 1 _ rfl
      have g2 := hfs 2 _ rfl
      have g3 := hfs 3 _ rfl
      have g4 := hfs 4 _ rfl
      have g5 := hfs 5 _ rfl
      have g6 := hfs 6 _ rfl
      have g7 := hfs 7 _ rfl
      simp [c3, c4, c25] at g0 g1 g2 g3 g4 g5 g6 g7
      obtain ⟨kind, rfl, h0⟩ := one_int g0
      obtain ⟨rev, rfl, h1⟩ := one_int g1
      obtain ⟨cnt, rfl, h2⟩ := one_int g2
      obtain ⟨delay, rfl, h3⟩ := one_int g3
      obtain ⟨gen, rfl, h4⟩ := one_int g4
      obtain ⟨tick, rfl, h5⟩ := one_int g5
      obtain ⟨pass, rfl⟩ := one_bool g6
      obtain ⟨phase, active, r0, r1, w0, w1, p0, p1, sdelay, sgen, sw, flip, rfl, rfl, rfl, rfl, rfl, rfl, rfl, rfl, rfl, rfl, rfl, rfl, k0, k1, k2, k3, k4, k5, k6, k7, k8, k9⟩ := open_state g7
      exact ⟨⟨kind, rev, cnt, delay, gen, tick, pass, phase, active, r0, r1, w0, w1, p0, p1, sdelay, sgen, sw, flip⟩, rfl, ⟨h0, h1, h2, h3, h4, h5, k0, k1, k2, k3, k4, k5, k6, k7, k8, k9⟩⟩
end Go.Proofs.YthombepmlepgfaaDoor
