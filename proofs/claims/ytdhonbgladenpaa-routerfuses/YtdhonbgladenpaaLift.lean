/-
  From a law's walk to its given row: what came in, the arguments as they were; is there more than is played? (great).
-/
import Derived.Test.YtdhonbgladenpaaAwak
import Derived.Deep.LoopGhost
import Derived.Deep.SlicePairs
namespace Go.Proofs.Ytdhonbgladenpaa
open Go.ChangeShapes Go.WideShapes Go.ChangeAt Go.RowKit

theorem t_own : ownKnob Try.prog.godebug = none := by kernel_rfl
theorem t_laidOut : laidOutB Try.prog = true := by kernel_rfl

/-- All arguments read behind the call as they did. -/
theorem trodAll_under {H : Type} {enc : TypeId × Value → H} {W W' : World} (hb : Below W.heap.size W W') : ∀ (ts : List TypeId) (vs : List Value) (ds : List (DataW H)) (ps : List MemPlace),
    (∀ t ∈ ts, Try.prog.readableRec t = true ∧ t < Try.prog.types.size) → DataW.TrodAll enc Try.prog W 0 (fun _ => true) true ts vs ds ps → (∀ x ∈ ps, x.block < W.heap.size) →
    DataW.TrodAll enc Try.prog W' 0 (fun b => decide (b < W.heap.size)) true ts vs ds ps
  | [], vs, ds, ps, _, h, _ => by
    obtain ⟨rfl, rfl, rfl⟩ := trodAll_nil h
    exact trodAll_mk0
  | t :: ts, vs, ds, ps, ht, h, hp => by
    obtain ⟨v0, vs0, d0, ds0, p0, q0, rfl, rfl, rfl, h0, r0⟩ := trodAll_cons h
    obtain ⟨hr, hrow⟩ := ht t (List.mem_cons_self ..)
    exact trodAll_cons_mk (Below.trod t_laidOut hr hrow h0 hb fun x hx => hp x (List.mem_append_left _ hx))
      (trodAll_under hb ts vs0 ds0 q0 (fun t' h' => ht t' (List.mem_cons_of_mem _ h')) r0 fun x hx => hp x (List.mem_append_right _ hx))

theorem t_size : 50 < Try.prog.types.size := of_decide_eq_true (by kernel_rfl)
theorem params_ok (t : Nat) (h : t = 3 ∨ t = 22 ∨ t = 35 ∨ t = 50) : Try.prog.readableRec t = true ∧ t < Try.prog.types.size := by
  have := t_size
  rcases h with rfl | rfl | rfl | rfl <;> exact ⟨by kernel_rfl, by omega⟩

/-- What a law leaves: true, all that was there as it was. -/
def Holds (w : World) (e : Ending) (w' : World) : Prop := e = .returned (.bool true) ∧ Below w.heap.size w w'

/-- A law's post out of its walk. -/
theorem post_of_holds {H : Type} {enc : TypeId × Value → H} {f : Func} {s : ChangeSpec} {W W' : World} {args : Array Value} {ds gs : List (DataW H)} {before : List MemPlace}
    (hW : DataW.Whole enc Try.prog f.params.toList s.vars false W args.toList ds gs before) (hr : f.resultTypes = #[4]) (hv : s.vars = [])
    (hp : ∀ t ∈ f.params.toList, Try.prog.readableRec t = true ∧ t < Try.prog.types.size)
    (hfn : (s.fn H ds).results = [.lit (.bool true)] ∧ (s.fn H ds).args = ds ∧ (s.fn H ds).vars = []) (hb : Below W.heap.size W W') :
    s.post enc Try.prog f false true false false W args (.bool true) W' := by
  have hW' := hW
  obtain ⟨p, q, hA, hV, rfl, _, _⟩ := hW
  rw [hv] at hV
  obtain ⟨rfl, rfl⟩ : gs = [] ∧ q = [] := by
    cases gs with
    | nil => exact ⟨rfl, hV⟩
    | cons g r => exact absurd hV (by intro h; cases h)
  obtain ⟨h1, h2, h3⟩ := hfn
  refine ⟨_, _, _, [], p, [], hW', ?_, ?_, ?_, hb.frame _, fun h => by cases h⟩
  · rw [List.append_nil, h1, hr]; exact trodAll_mk1 (shut_bool Try.underlying4 true)
  · rw [List.append_nil, h2]
    exact trodAll_under hb _ _ _ _ hp hA fun x hx => by simpa using hW'.lt x (by simpa using hx)
  · rw [List.append_nil, h3, hv]; rfl


theorem IntsI.shape {W : World} {v : Value} {xs : List Int} (h : IntsI W v xs) : ∃ A c, v = .slice A xs.length c := by
  rcases h with ⟨rfl | ⟨a, c, rfl⟩, rfl⟩ | ⟨b, o, c, rfl, _⟩ <;> exact ⟨_, _, rfl⟩
theorem ActsI.shape {W : World} {v : Value} {xs : List Ac} (h : ActsI W v xs) : ∃ A c, v = .slice A xs.length c := by
  rcases h with ⟨rfl | ⟨a, c, rfl⟩, rfl⟩ | ⟨b, o, c, rfl, _⟩ <;> exact ⟨_, _, rfl⟩
theorem LiesA.under {W W' : World} {b k B : Nat} {x : Ac} (h : LiesA W b k x) (hb : Below B W W') (hB : b < B) (hW : W.heap.size ≤ B) : LiesA W' b k x := by
  obtain ⟨h0, h1, h2, ⟨v, h3, h4⟩, h5⟩ := h
  exact ⟨(hb.cell (p := ⟨b, k, none⟩) hB).trans h0, (hb.cell (p := ⟨b, k + 1, none⟩) hB).trans h1, (hb.cell (p := ⟨b, k + 2, none⟩) hB).trans h2, ⟨v, (hb.cell (p := ⟨b, k + 3, none⟩) hB).trans h3, h4.under hb hW⟩, h5⟩
/-- The k-th act, in a world that is as it was below. -/
theorem ActsI.kth {w w' : World} {A : Option Addr} {c k : Nat} {xs : List Ac} (h : ActsI w (.slice A xs.length c) xs) (hb : Below w.heap.size w w') (hk : k < xs.length) : ∃ b off, A = some ⟨b, off, none⟩ ∧ b < w.heap.size ∧ LiesA w' b (off + k * 4) xs[k] := by
  rcases h with ⟨_, rfl⟩ | ⟨b, o, c', h1, h2, h3, h4, h5⟩
  · simp at hk
  · injection h1 with h1
    exact ⟨b, o, h1, h4, (h5 k hk).under hb h4 (Nat.le_refl _)⟩
/-- Routes that came in. -/
def CellsI (W : World) (v : Value) (xs : List (Int × Int)) : Prop :=
  ((v = .slice none 0 0 ∨ ∃ a c, v = .slice (some a) 0 c) ∧ xs = []) ∨ ∃ b o c, v = .slice (some ⟨b, o, none⟩) xs.length c ∧ 0 < xs.length ∧ xs.length ≤ c ∧ b < W.heap.size ∧ ∀ k (h : k < xs.length), W.cell? ⟨b, o + k * 2, none⟩ = some (.int .i64 xs[k].1) ∧ W.cell? ⟨b, o + k * 2 + 1, none⟩ = some (.int .i64 xs[k].2)
theorem CellsI.shape {W : World} {v : Value} {xs : List (Int × Int)} (h : CellsI W v xs) : ∃ A c, v = .slice A xs.length c := by
  rcases h with ⟨rfl | ⟨a, c, rfl⟩, rfl⟩ | ⟨b, o, c, rfl, _⟩ <;> exact ⟨_, _, rfl⟩
theorem CellsI.kth {w w' : World} {A : Option Addr} {c k : Nat} {xs : List (Int × Int)} (h : CellsI w (.slice A xs.length c) xs) (hb : Below w.heap.size w w') (hk : k < xs.length) : ∃ b off, A = some ⟨b, off, none⟩ ∧ b < w.heap.size ∧ w'.cell? ⟨b, off + k * 2, none⟩ = some (.int .i64 xs[k].1) ∧ w'.cell? ⟨b, off + k * 2 + 1, none⟩ = some (.int .i64 xs[k].2) := by
  rcases h with ⟨_, rfl⟩ | ⟨b, o, c', h1, h2, h3, h4, h5⟩
  · simp at hk
  · injection h1 with h1
    exact ⟨b, o, h1, h4, (hb.cell (p := ⟨b, o + k * 2, none⟩) h4).trans (h5 k hk).1, (hb.cell (p := ⟨b, o + k * 2 + 1, none⟩) h4).trans (h5 k hk).2⟩
theorem open_ints {H : Type} {enc : TypeId × Value → H} {W : World} {base : Nat} {v : Value} {d : DataW H} {ps : List MemPlace} (hok : Value.okWide Try.prog W .any base 35 v) (h : DataW.Trod enc Try.prog W 0 (fun _ => true) true 35 v d ps) : ∃ xs, IntsI W v xs ∧ ∀ x ∈ xs, Fits x := by
  obtain ⟨a, len, cap, rfl⟩ := okWide_slice Try.underlying35 hok
  obtain ⟨fuel, hf⟩ := h
  exact open_ints1 hf
theorem open_cells {H : Type} {enc : TypeId × Value → H} {W : World} {base : Nat} {v : Value} {d : DataW H} {ps : List MemPlace} (hok : Value.okWide Try.prog W .any base 50 v) (h : DataW.Trod enc Try.prog W 0 (fun _ => true) true 50 v d ps) : ∃ xs, CellsI W v xs := by
  obtain ⟨a, len, cap, rfl⟩ := okWide_slice Try.underlying50 hok
  obtain ⟨fuel, hf⟩ := h
  rcases Go.Deep.open_slice_pairs Try.underlying50 Try.underlying34 k45 rfl rfl k3 k3 hf with ⟨h0, _⟩ | ⟨a', len', cap', m, n, V0, V1, D0, D1, P0, P1, h0, _, hl, hm, hmm, _, hcell⟩
  · obtain ⟨rfl, rfl, rfl⟩ : a = none ∧ len = 0 ∧ cap = 0 := by simpa [Value.cells] using h0
    exact ⟨[], .inl ⟨.inl rfl, rfl⟩⟩
  · obtain ⟨rfl, rfl, rfl⟩ : a = some a' ∧ len = len' ∧ cap = cap' := by simpa [Value.cells] using h0
    rcases Nat.eq_zero_or_pos len with h5 | h5
    · subst h5
      exact ⟨[], .inl ⟨.inr ⟨_, _, rfl⟩, rfl⟩⟩
    have hm' : m = cap := by simpa using hmm
    subst hm'
    have each : ∀ i, i < len → ∃ q : Int × Int, W.cell? (a'.add (i * 2)) = some (.int .i64 q.1) ∧ W.cell? (a'.add (i * 2 + 1)) = some (.int .i64 q.2) := by
      intro i hi
      obtain ⟨e0, e1, t0, t1⟩ := hcell i (by omega)
      obtain ⟨x0, hx0, _⟩ := one_int t0
      obtain ⟨x1, hx1, _⟩ := one_int t1
      exact ⟨(x0, x1), by rw [e0, hx0], by rw [e1, hx1]⟩
    obtain ⟨q, hq⟩ := Go.Deep.choose_lt each
    obtain ⟨b, off, spot⟩ := a'
    have h1 := (hq 0 h5).1
    have hspot : spot = none := by simpa [Addr.add] using World.cell?_spot h1
    subst hspot
    have hadd := addr_add b off
    refine ⟨(List.range len).map q, .inr ⟨b, off, m, by simp, by simpa using h5, by simpa using hl, ?_, ?_⟩⟩
    · rw [hadd] at h1
      exact World.block_lt_of_cell? W _ h1
    · intro k hk
      have h2 := hq k (by simpa using hk)
      simp only [hadd] at h2
      simp only [List.getElem_map, List.getElem_range]
      exact h2
set_option maxRecDepth 100000 in
set_option maxHeartbeats 4000000 in
theorem great_long (A : Option Addr) (c n : Nat) (w : World) (h : 200 < n) : Calls Try.prog 10 #[.slice A n c] w fun e w' => e = .returned (.bool true) ∧ Below w.heap.size w w' := by
  have e1 : decide (200 < (n : Int)) = true := by simp; omega
  clear h
  go_enter Try.func10, Try.ntmps10
  go_wp2
  go_ret
  exact ⟨rfl, Below.refl _ _⟩
/-- Are there too many outcomes? -/
def bigB (xs : List Ac) : Bool := xs.any fun x => decide (100 < x.outs.length)
theorem bigB_at {xs : List Ac} (k : Nat) (hk : k < xs.length) (h : 100 < xs[k].outs.length) : bigB xs = true := by
  unfold bigB
  rw [List.any_eq_true]
  exact ⟨xs[k], List.getElem_mem hk, by simpa using h⟩
theorem bigB_no {xs : List Ac} (h : ∀ k (hk : k < xs.length), xs[k].outs.length ≤ 100) : bigB xs = false := by
  unfold bigB
  rw [List.any_eq_false]
  intro x hx
  obtain ⟨k, hk, rfl⟩ := List.getElem_of_mem hx
  simpa using h k hk
theorem bigB_is {xs : List Ac} (h : bigB xs = false) (k : Nat) (hk : k < xs.length) : xs[k].outs.length ≤ 100 := by
  unfold bigB at h
  rw [List.any_eq_false] at h
  simpa using h xs[k] (List.getElem_mem hk)
set_option maxRecDepth 100000 in
set_option maxHeartbeats 4000000 in
theorem great_rest (A : Option Addr) (c : Nat) (xs : List Ac) (w : World) (hx : ActsI w (.slice A xs.length c) xs) (h : xs.length ≤ 200) : Calls Try.prog 10 #[.slice A xs.length c] w fun e w' => e = .returned (.bool (bigB xs)) ∧ Below w.heap.size w w' := by
  have e1 : decide (200 < (xs.length : Int)) = false := by simp; omega
  have HX := Lib.hid hx
  clear hx
  go_enter Try.func10, Try.ntmps10
  go_wp2
  go_loopg [10] xs.length (fun g i wr => ∃ k : Nat, Hid (g = xs.length - k) ∧ k ≤ xs.length ∧ i = .int .i64 (k : Int) ∧ Hid (∀ j (hj : j < xs.length), j < k → xs[j].outs.length ≤ 100) ∧ Hid (Below w.heap.size w wr))
  case atStart => exact ⟨0, Lib.hid rfl, Nat.zero_le _, rfl, Lib.hid (fun j _ h => by omega), Lib.hid (Below.refl _ _)⟩
  case round =>
    obtain ⟨k, HG, hk, rfl, HT, HBL⟩ := hrel
    by_cases hlt : k < xs.length
    · obtain ⟨b, off, rfl, hb, hL⟩ := HX.out.kth HBL.out hlt
      obtain ⟨⟨kd, gn, sl, os⟩, hA⟩ : ∃ A, A = xs[k] := ⟨_, rfl⟩
      have HA := Lib.hid hA
      rw [← hA] at hL
      obtain ⟨k0, k1, k2, ⟨v, k3, hi⟩, _⟩ := hL
      simp only at k0 k1 k2 k3 hi
      obtain ⟨A', c', rfl⟩ := hi.shape
      clear hA hi
      by_cases hbig : 100 < os.length
      · have e3 : decide (100 < (os.length : Int)) = true := by simp; omega
        have HE := Lib.hid (bigB_at k hlt (by rw [← HA.out]; exact hbig))
        go_wp2
        go_ret
        exact ⟨by rw [HE.out]; rfl, HBL.out.alloc HBL.out.size _⟩
      · have e3 : decide (100 < (os.length : Int)) = false := by simp; omega
        go_wp2
        go_roundg (xs.length - (k + 1))
        case measure => have := HG.out; omega
        case rel =>
          refine ⟨k + 1, Lib.hid rfl, by omega, by go_num, Lib.hid (fun j hj h => ?_), Lib.hid (HBL.out.alloc HBL.out.size _)⟩
          rcases (by omega : j < k ∨ j = k) with h | rfl
          · exact HT.out j hj h
          · rw [← HA.out]; show os.length ≤ 100; omega
    · obtain rfl : k = xs.length := by omega
      have HE := Lib.hid (bigB_no fun j hj => HT.out j hj hj)
      go_wp2
      go_ret
      exact ⟨by rw [HE.out]; rfl, HBL.out⟩
/-- Is there more than is played? -/
def greatB (xs : List Ac) : Bool := decide (200 < xs.length) || bigB xs
theorem great_any (v : Value) (xs : List Ac) (w : World) (hx : ActsI w v xs) : Calls Try.prog 10 #[v] w fun e w' => e = .returned (.bool (greatB xs)) ∧ Below w.heap.size w w' := by
  obtain ⟨A, c, rfl⟩ := hx.shape
  unfold greatB
  by_cases h1 : 200 < xs.length
  · rw [decide_eq_true h1]
    exact great_long A c _ w h1
  · rw [decide_eq_false h1, Bool.false_or]
    exact great_rest A c xs w hx (by omega)
theorem great_no {xs : List Ac} (h : greatB xs = false) : xs.length ≤ 200 ∧ bigB xs = false := by
  unfold greatB at h
  simp only [Bool.or_eq_false_iff, decide_eq_false_iff_not] at h
  exact ⟨by omega, h.2⟩
end Go.Proofs.Ytdhonbgladenpaa
