/-
  A model: its state, its fleet, its router with a fuse that isn't armed, tries, a tick: what its calls tell, and leave: plain facts, no program.
  A model's step: its ways; what holds of a model whatever was done: plain facts, no program.
  What the consequences of a model ask: the route, what is kept, aborts, ticks: plain facts, no program.
  A model settles: plain facts, no program.
-/
import Derived.Test.YtchaeidmjoelnaaStStep
import Derived.Test.YtchaeidmjoelnaaLaw
import Derived.Test.YtchaeidmjoelnaaPlnS
import Derived.Test.YtchaeidmjoelnaaMayS
import Derived.Test.YtchaeidmjoelnaaRepS
import Derived.Test.YtchaeidmjoelnaaFleS
import Derived.Test.YtchaeidmjoelnaaRouC
import Derived.Test.YtchaeidmjoelnaaCliA
import Derived.Test.YtchaeidmjoelnaaFirst
namespace Go.Proofs.Ytchaeidmjoelnaa

/-- The first of n + 1 numbers from j on that p holds of, or the last of them. -/
def jOf (p : Nat → Bool) : Nat → Nat → Nat
  | 0, j => j
  | n + 1, j => if p j = true then j else jOf p n (j + 1)
theorem jOf_spec (p : Nat → Bool) : ∀ n j, j ≤ jOf p n j ∧ jOf p n j ≤ j + n ∧ (∀ i, j ≤ i → i < jOf p n j → p i = false) ∧ (p (jOf p n j) = true ∨ jOf p n j = j + n)
  | 0, j => ⟨Nat.le_refl _, Nat.le_refl _, fun i h1 h2 => by have h2' : i < j := h2; omega, .inr rfl⟩
  | n + 1, j => by
    unfold jOf
    cases h : p j with
    | true => rw [if_pos rfl]; exact ⟨Nat.le_refl _, by omega, fun i h1 h2 => by omega, .inl h⟩
    | false =>
      rw [if_neg (by decide)]
      obtain ⟨h1, h2, h3, h4⟩ := jOf_spec p n (j + 1)
      refine ⟨by omega, by omega, fun i g1 g2 => ?_, ?_⟩
      · by_cases e : i = j
        · rw [e]; exact h
        · exact h3 i (by omega) g2
      · rcases h4 with h4 | h4
        · exact .inl h4
        · exact .inr (by omega)
/-- How many calls Set makes. -/
def setJ (gen slot : Int) (s : Ro) (f : Fu) (tries : Int) : Nat := jOf (fun i => last gen slot s f i != 10) ((triesC tries).toNat - 1) 1
theorem setJ_is (gen slot : Int) (s : Ro) (f : Fu) (tries : Int) : SetJ gen slot s f (triesC tries) (setJ gen slot s f tries) := by
  have ht := triesC_in tries
  obtain ⟨h1, h2, h3, h4⟩ := jOf_spec (fun i => last gen slot s f i != 10) ((triesC tries).toNat - 1) 1
  refine ⟨h1, ?_, fun i hi => ?_, ?_⟩
  · have h2' : setJ gen slot s f tries ≤ 1 + ((triesC tries).toNat - 1) := h2
    omega
  · cases i with
    | zero => rfl
    | succ i =>
      have := h3 (i + 1) (by omega) hi
      simpa using this
  · rcases h4 with h4 | h4
    · exact .inl (by unfold setJ; simpa using h4)
    · have h4' : setJ gen slot s f tries = 1 + ((triesC tries).toNat - 1) := h4
      exact .inr (by omega)
/-- A model. -/
structure Md where
  s : St
  k : List Bool
  l : List Bool
  ro : Ro
  fu : Fu
  tries : Int
  tick : Int
def viewM (m : Md) : Vw := ⟨m.k.length, m.l.length, cntL m.k, cntL m.l⟩
/-- The fleet is set to a state's numbers. -/
def fleetM (m : Md) (s : St) : Md := { m with s := s, k := scaleL m.k s.w0, l := scaleL m.l s.w1 }
def putM (m : Md) (r : Rc) : Md × Bool := (fleetM m (stepS m.s r).1, (stepS m.s r).2)
def opM (m : Md) (o : Oc) : Md × Int := if chkS m.s o m.tick = 0 then ((putM m (recO o)).1, 0) else (m, chkS m.s o m.tick)
def rec8 (g t : Int) : Rc := ⟨8, 0, 0, 0, g, t, false, zeroS⟩
/-- The router is called for the other slot: what it tells, and leaves. -/
def toldM (m : Md) : Int := last m.s.gn (1 - m.s.ac) m.ro m.fu (setJ m.s.gn (1 - m.s.ac) m.ro m.fu m.tries)
def callM (m : Md) : Md := { m with ro := (st m.s.gn (1 - m.s.ac) m.ro m.fu (setJ m.s.gn (1 - m.s.ac) m.ro m.fu m.tries)).1, fu := (st m.s.gn (1 - m.s.ac) m.ro m.fu (setJ m.s.gn (1 - m.s.ac) m.ro m.fu m.tries)).2 }
def routeM (m : Md) : Md × Int := if toldM m = 0 then ((putM (callM m) (rec8 m.s.gn m.tick)).1, 0) else (callM m, toldM m)
def goM : Nat → Md → Md × Int
  | 0, m => (m, 0)
  | n + 1, m =>
    if (nextS m.s (viewM m) m.tick).1 = 0 then (m, 0)
    else if (nextS m.s (viewM m) m.tick).1 = 5 then routeM m
    else if (nextS m.s (viewM m) m.tick).1 ≠ 2 ∧ (nextS m.s (viewM m) m.tick).1 ≠ 3 then ((putM m (nextS m.s (viewM m) m.tick).2).1, 0)
    else if (putM m (nextS m.s (viewM m) m.tick).2).2 = false then ((putM m (nextS m.s (viewM m) m.tick).2).1, 9)
    else goM n (putM m (nextS m.s (viewM m) m.tick).2).1
def scriptM (m : Md) (xs : List Int) : Md := { fleetM m m.s with ro := { m.ro with outs := m.ro.outs ++ xs } }
def stepM (m : Md) (xs : List Int) : Md × Int := goM 4 (scriptM m xs)
def readyM (m : Md) (s i : Int) (on : Bool) : Md := { m with k := rdA m.k s i on, l := rdB m.l s i on }
def fillM (m : Md) : Md := { m with k := fillL m.k, l := fillL m.l }
/-- The sum of both, at most most. -/
def addI (a b most : Int) : Int := min (max a 0 + max b 0) (max most 0)
def tickM (m : Md) (n : Int) : Md := { m with tick := addI m.tick n 1073741824 }
def newM (s : St) (tries : Int) : Md := fillM (fleetM ⟨s, [], [], ⟨0, 0, [], 0⟩, ⟨false, 0, false, 0⟩, tries, 0⟩ s)

/-! What is the active slot's, the other one's. -/
theorem right_x {s : St} (h : rightS s = true) : (s.ac = 0 ∨ s.ac = 1) ∧ RightX s.ph (raS s) (waS s) (paS s) (orS s) (woS s) (poS s) s.dl s.gn s.sw s.fl := by
  unfold rightS at h
  unfold raS waS paS orS woS poS
  split at h
  · rename_i e
    simp only [if_pos e]
    exact ⟨.inl e, of_decide_eq_true h⟩
  · rename_i e
    split at h
    · rename_i e1
      simp only [if_neg e]
      exact ⟨.inr e1, of_decide_eq_true h⟩
    · cases h
/-- What a model holds, whatever was done. -/
structure MdI (m : Md) : Prop where
  right : rightS m.s = true
  lk : (m.k.length : Int) = m.s.w0
  ll : (m.l.length : Int) = m.s.w1
  tick : 0 ≤ m.tick ∧ m.tick ≤ 1073741824
  fuse : m.fu.armed = false
  gen : 0 ≤ m.ro.gen ∧ m.ro.gen ≤ m.s.gn
  cell : (m.s.sw = 2 ∧ m.ro.slot = 1 - m.s.ac ∧ m.ro.gen = m.s.gn) ∨ (m.ro.slot = m.s.ac ∧ (m.s.sw ≠ 0 → m.ro.gen < m.s.gn))
theorem clamp_in {n : Int} (h : 0 ≤ n ∧ n ≤ 32) : (clampN n : Int) = n := by unfold clampN; omega
theorem scale_same {l : List Bool} {n : Int} (h : l.length = clampN n) : scaleL l n = l := by
  unfold scaleL padL
  rw [← h, List.take_of_length_le (Nat.le_refl _), Nat.sub_self]
  simp
theorem right_w {s : St} (h : rightS s = true) : (0 ≤ s.w0 ∧ s.w0 ≤ 32) ∧ (0 ≤ s.w1 ∧ s.w1 ≤ 32) := by
  obtain ⟨ha, X⟩ := right_x h
  unfold RightX waS woS at X
  rcases ha with e | e
  · simp only [if_pos e] at X; omega
  · simp only [if_neg (show ¬ s.ac = 0 by omega)] at X; omega
theorem scale_set {l : List Bool} {n : Int} (hn : 0 ≤ n ∧ n ≤ 32) (h : (l.length : Int) = n) : scaleL l n = l := scale_same (by have := clamp_in hn; omega)
theorem scale_len {l : List Bool} {n : Int} (hn : 0 ≤ n ∧ n ≤ 32) : ((scaleL l n).length : Int) = n := by rw [scaleL_len]; exact clamp_in hn
/-- The fleet stands as the state says. -/
structure SetI (m : Md) : Prop where
  right : rightS m.s = true
  lk : (m.k.length : Int) = m.s.w0
  ll : (m.l.length : Int) = m.s.w1
theorem MdI.set {m : Md} (h : MdI m) : SetI m := ⟨h.right, h.lk, h.ll⟩
theorem fleet_same {m : Md} (h : SetI m) : fleetM m m.s = m := by
  have hw := right_w h.right
  unfold fleetM
  rw [scale_set hw.1 h.lk, scale_set hw.2 h.ll]
theorem fleet_set (m : Md) {s : St} (h : rightS s = true) : SetI (fleetM m s) := ⟨h, scale_len (right_w h).1, scale_len (right_w h).2⟩
/-- Without a change of the numbers the fleet stays. -/
theorem fleet_w {m : Md} (h : SetI m) {s : St} (h0 : s.w0 = m.s.w0) (h1 : s.w1 = m.s.w1) : fleetM m s = { m with s := s } := by
  have hw := right_w h.right
  unfold fleetM
  rw [h0, h1, scale_set hw.1 h.lk, scale_set hw.2 h.ll]
theorem put_set (m : Md) (r : Rc) (h : rightS m.s = true) : SetI (putM m r).1 := fleet_set m (right_step r h)
theorem put_no {m : Md} (h : SetI m) {r : Rc} (hn : stepS m.s r = (m.s, false)) : putM m r = (m, false) := by
  unfold putM
  rw [hn, fleet_same h]

/-! What the router's calls tell, and leave, where its fuse isn't armed. -/
section
variable {g o : Int} {s : Ro} {f : Fu}
theorem bears_free (h : f.armed = false) : bears f = true := by unfold bears; rw [h]; rfl
theorem st_free (h : f.armed = false) : ∀ i, (st g o s f i).2.armed = false
  | 0 => h
  | i + 1 => by
    show (fuseC (st g o s f i).2 g o).armed = false
    have hi := st_free h i
    unfold fuseC spent
    split
    · rw [if_pos (bears_free hi)]; exact hi
    · exact hi
theorem call_cell (s : Ro) (g o : Int) : ((callS s g o).slot = s.slot ∧ (callS s g o).gen = s.gen) ∨ ((callS s g o).slot = o ∧ (callS s g o).gen = g ∧ s.gen < g) := by
  unfold callS
  split
  · exact .inl ⟨rfl, rfl⟩
  · split
    · rename_i h; exact .inr ⟨rfl, rfl, h⟩
    · exact .inl ⟨rfl, rfl⟩
theorem call_outs (s : Ro) (g o : Int) : (callS s g o).outs = s.outs.tail := by
  unfold callS
  split
  · rfl
  · split <;> rfl
theorem left_is (h : f.armed = false) (hr : inRange g o) (i : Nat) : (st g o s f (i + 1)).1 = callS (st g o s f i).1 g o ∧ last g o s f (i + 1) = callE (st g o s f i).1 g o := by
  have hb := bears_free (st_free (g := g) (o := o) (s := s) h i)
  constructor
  · show leftC _ _ g o = _
    unfold leftC
    rw [if_pos hr, if_pos hb]
  · show toldC _ _ g o = _
    unfold toldC
    rw [if_pos hr, if_pos hb]
/-- The route is what it was, or the one that was called for. -/
theorem st_cell (h : f.armed = false) (hr : inRange g o) : ∀ i, ((st g o s f i).1.slot = s.slot ∧ (st g o s f i).1.gen = s.gen) ∨ ((st g o s f i).1.slot = o ∧ (st g o s f i).1.gen = g ∧ s.gen < g)
  | 0 => .inl ⟨rfl, rfl⟩
  | i + 1 => by
    rw [(left_is h hr i).1]
    rcases call_cell (st g o s f i).1 g o with ⟨h1, h2⟩ | ⟨h1, h2, h3⟩
    · rw [h1, h2]; exact st_cell h hr i
    · rw [h1, h2]
      rcases st_cell h hr i with ⟨_, g2⟩ | ⟨_, _, g3⟩
      · exact .inr ⟨rfl, rfl, by omega⟩
      · exact .inr ⟨rfl, rfl, g3⟩
/-- Of a route that isn't too old, a call tells OK, and it is that route then, or ErrRouter, for an outcome. -/
theorem call_told (s : Ro) (g o : Int) (hg : s.gen < g ∨ (s.gen = g ∧ s.slot = o)) : (callE s g o = 0 ∧ (callS s g o).slot = o ∧ (callS s g o).gen = g) ∨ (callE s g o = 10 ∧ 0 < s.outs.length) := by
  have hx : outS s = 1 ∨ outS s = 2 → 0 < s.outs.length := by
    unfold outS
    cases s.outs with
    | nil => simp
    | cons x xs => simp
  unfold callE callS
  by_cases h2 : outS s = 2
  · rw [if_pos h2]; exact .inr ⟨rfl, hx (.inr h2)⟩
  rw [if_neg h2, if_neg h2]
  by_cases h1 : outS s = 1
  · rw [if_pos h1]; exact .inr ⟨rfl, hx (.inl h1)⟩
  rw [if_neg h1]
  left
  by_cases h3 : s.gen < g
  · rw [if_pos h3, if_pos h3]; exact ⟨rfl, rfl, rfl⟩
  · rw [if_neg h3, if_neg h3, if_neg (by omega)]
    exact ⟨rfl, by show s.slot = o; omega, by show s.gen = g; omega⟩
theorem st_told (h : f.armed = false) (hr : inRange g o) (hg : s.gen < g ∨ (s.gen = g ∧ s.slot = o)) (i : Nat) : (last g o s f (i + 1) = 0 ∧ (st g o s f (i + 1)).1.slot = o ∧ (st g o s f (i + 1)).1.gen = g) ∨ (last g o s f (i + 1) = 10 ∧ 0 < (st g o s f i).1.outs.length) := by
  rw [(left_is h hr i).1, (left_is h hr i).2]
  refine call_told _ g o ?_
  rcases st_cell (s := s) h hr i with ⟨h1, h2⟩ | ⟨h1, h2, _⟩
  · rw [h1, h2]; exact hg
  · exact .inr ⟨h2, h1⟩
theorem st_outs (h : f.armed = false) (hr : inRange g o) : ∀ i, (st g o s f i).1.outs.length = s.outs.length - i
  | 0 => rfl
  | i + 1 => by rw [(left_is h hr i).1, call_outs, List.length_tail, st_outs h hr i]; omega
end
/-- The outcome of a Set of a route that isn't too old. -/
theorem set_told {m : Md} (h : m.fu.armed = false) (hr : inRange m.s.gn (1 - m.s.ac)) (hg : m.ro.gen < m.s.gn ∨ (m.ro.gen = m.s.gn ∧ m.ro.slot = 1 - m.s.ac)) :
    (toldM m = 0 ∧ (callM m).ro.slot = 1 - m.s.ac ∧ (callM m).ro.gen = m.s.gn ∧ (callM m).ro.outs.length ≤ m.ro.outs.length) ∨ (toldM m = 10 ∧ (callM m).ro.outs.length < m.ro.outs.length) := by
  have hj := setJ_is m.s.gn (1 - m.s.ac) m.ro m.fu m.tries
  obtain ⟨j, hj1⟩ : ∃ j, setJ m.s.gn (1 - m.s.ac) m.ro m.fu m.tries = j + 1 := ⟨setJ m.s.gn (1 - m.s.ac) m.ro m.fu m.tries - 1, by have := hj.pos; omega⟩
  unfold toldM callM
  rw [hj1]
  have ho := st_outs (s := m.ro) h hr (j + 1)
  rcases st_told h hr hg j with ⟨h1, h2, h3⟩ | ⟨h1, h2⟩
  · exact .inl ⟨h1, h2, h3, by show (st _ _ _ _ _).1.outs.length ≤ _; omega⟩
  · have h2' := st_outs (s := m.ro) h hr j
    exact .inr ⟨h1, by show (st _ _ _ _ _).1.outs.length < _; omega⟩
theorem call_free {m : Md} (h : m.fu.armed = false) : (callM m).fu.armed = false := st_free h _
theorem call_route {m : Md} (h : m.fu.armed = false) (hr : inRange m.s.gn (1 - m.s.ac)) : ((callM m).ro.slot = m.ro.slot ∧ (callM m).ro.gen = m.ro.gen) ∨ ((callM m).ro.slot = 1 - m.s.ac ∧ (callM m).ro.gen = m.s.gn ∧ m.ro.gen < m.s.gn) := st_cell h hr _
end Go.Proofs.Ytchaeidmjoelnaa
namespace Go.Proofs.Ytchaeidmjoelnaa

/-! What is to be done, by ways. -/
section
variable {s : St} {v : Vw} {now : Int}
theorem nx_warm (h : s.ph = 1) (hf : fullS s v (1 - s.ac) = true) : nextS s v now = (1, rcK 3 0) := by unfold nextS nextX; rw [if_pos ⟨h, hf⟩]
theorem nx_route (h : s.ph = 3 ∨ s.ph = 6) (hs : s.sw = 2) : nextS s v now = (5, rcK 0 0) := by unfold nextS nextX; rw [if_neg (fun h1 => by have := h1.1; omega), if_pos h, if_pos hs]
theorem nx_commit (h : s.ph = 3 ∨ s.ph = 6) (hs : s.sw = 1) (hf : fullS s v (1 - s.ac) = true) : nextS s v now = (3, rcK 6 s.gn) := by unfold nextS nextX; rw [if_neg (fun h1 => by have := h1.1; omega), if_pos h, if_neg (by omega), if_pos hs, if_pos hf]
theorem nx_cancel (h : s.ph = 3 ∨ s.ph = 6) (hs : s.sw = 1) (hf : fullS s v (1 - s.ac) = false) : nextS s v now = (4, rcK 7 s.gn) := by unfold nextS nextX; rw [if_neg (fun h1 => by have := h1.1; omega), if_pos h, if_neg (by omega), if_pos hs, if_neg (by rw [hf]; decide)]
theorem nx_prep (h : s.ph = 3 ∨ s.ph = 6) (hs : s.sw = 0) (hf : fullS s v (1 - s.ac) = true) : nextS s v now = (2, rcK 5 (s.gn + 1)) := by unfold nextS nextX; rw [if_neg (fun h1 => by have := h1.1; omega), if_pos h, if_neg (by omega), if_neg (by omega), if_pos hf]
theorem nx_wait (h : s.ph = 3 ∨ s.ph = 6) (hs : s.sw = 0) (hf : fullS s v (1 - s.ac) = false) : nextS s v now = (0, rcK 0 0) := by unfold nextS nextX; rw [if_neg (fun h1 => by have := h1.1; omega), if_pos h, if_neg (by omega), if_neg (by omega), if_neg (by rw [hf]; decide)]
theorem nx_scale (h : s.ph = 7 ∨ s.ph = 5 ∧ s.dl ≤ lessI now s.fl) : nextS s v now = (6, rcK 10 0) := by unfold nextS nextX; rw [if_neg (fun h1 => by have := h1.1; omega), if_neg (by omega), if_pos h]
theorem nx_none (h : ¬ (s.ph = 1 ∧ fullS s v (1 - s.ac) = true)) (h3 : ¬ (s.ph = 3 ∨ s.ph = 6)) (h7 : ¬ (s.ph = 7 ∨ s.ph = 5 ∧ s.dl ≤ lessI now s.fl)) : nextS s v now = (0, rcK 0 0) := by unfold nextS nextX; rw [if_neg h, if_neg h3, if_neg h7]
theorem step_kinds (hr : rightS s = true) (g : Int) : stepS s (rcK 3 g) = step3 s ∧ stepS s (rcK 5 g) = step5 s (rcK 5 g) ∧ stepS s (rcK 6 g) = step6 s (rcK 6 g) ∧ stepS s (rcK 7 g) = step7 s (rcK 7 g) ∧ stepS s (rcK 10 g) = step10 s := by
  unfold stepS
  simp [hr, rcK]
theorem stp_warm (hr : rightS s = true) (h : s.ph = 1) : stepS s (rcK 3 0) = ({ s with ph := 2 }, true) := by rw [(step_kinds hr 0).1]; exact pick_yes _ _ h
theorem stp_prep (hr : rightS s = true) (h : s.ph = 3 ∨ s.ph = 6) (hs : s.sw = 0) (hg : s.gn < 1048576) : stepS s (rcK 5 (s.gn + 1)) = ({ s with gn := s.gn + 1, sw := 1 }, true) := by rw [(step_kinds hr _).2.1]; exact pick_yes _ _ ⟨h, hs, hg, rfl⟩
theorem stp_prep_no (hr : rightS s = true) (hg : 1048576 ≤ s.gn) : stepS s (rcK 5 (s.gn + 1)) = (s, false) := by rw [(step_kinds hr _).2.1]; exact pick_no _ _ (fun h => by have := h.2.2.1; omega)
theorem stp_commit (hr : rightS s = true) (hs : s.sw = 1) : stepS s (rcK 6 s.gn) = ({ s with sw := 2 }, true) := by rw [(step_kinds hr _).2.2.1]; exact pick_yes _ _ ⟨hs, rfl⟩
theorem stp_cancel (hr : rightS s = true) (hs : s.sw = 1) : stepS s (rcK 7 s.gn) = ({ s with sw := 0, gn := s.gn - 1 }, true) := by rw [(step_kinds hr _).2.2.2.1]; exact pick_yes _ _ ⟨hs, rfl⟩
theorem stp_scale (hr : rightS s = true) (h : s.ph = 5 ∨ s.ph = 7) : stepS s (rcK 10 0) = (blankS s, true) := by rw [(step_kinds hr _).2.2.2.2]; exact pick_yes _ _ h
/-- The state behind a switch. -/
def appS (s : St) (tick : Int) : St := { s with sw := 0, ac := 1 - s.ac, fl := tick, ph := if s.ph = 3 then 4 else 7 }
theorem stp_apply (hr : rightS s = true) (hs : s.sw = 2) {t : Int} (ht : 0 ≤ t ∧ t ≤ 1073741824) : stepS s (rec8 s.gn t) = (appS s t, true) := by
  have e : stepS s (rec8 s.gn t) = step8 s (rec8 s.gn t) := by
    unfold stepS
    simp [hr, rec8]
  rw [e]
  exact pick_yes _ _ ⟨hs, rfl, ht.1, ht.2⟩
theorem right_switch (hr : rightS s = true) (h : s.ph = 3 ∨ s.ph = 6) {g w : Int} (hg : 0 < g ∧ g ≤ 1048576) (hw : 0 ≤ w ∧ w ≤ 2) : rightS { s with gn := g, sw := w } = true := by
  obtain ⟨ph, ac, r0, r1, w0, w1, p0, p1, dl, gn, sw, fl⟩ := s
  have h : ph = 3 ∨ ph = 6 := h
  obtain ⟨ha, X⟩ := right_x hr
  have Y := x_switch g w X ⟨by omega, by omega, hw.1, hw.2⟩ (by show w = 0 ∨ (ph = 3 ∨ ph = 6) ∧ 0 < g; omega)
  unfold rightS
  rcases ha with ha | ha
  · obtain rfl : ac = 0 := ha
    exact decide_eq_true Y
  · obtain rfl : ac = 1 := ha
    exact decide_eq_true Y
end
theorem put_w {m : Md} (h : SetI m) {r : Rc} {s' : St} {b : Bool} (he : stepS m.s r = (s', b)) (h0 : s'.w0 = m.s.w0) (h1 : s'.w1 = m.s.w1) : putM m r = ({ m with s := s' }, b) := by
  unfold putM
  rw [he]
  show (fleetM m s', b) = _
  rw [fleet_w h h0 h1]
theorem set_with {m : Md} (h : SetI m) {s' : St} (hr : rightS s' = true) (h0 : s'.w0 = m.s.w0) (h1 : s'.w1 = m.s.w1) : SetI { m with s := s' } := ⟨hr, by rw [h0]; exact h.lk, by rw [h1]; exact h.ll⟩
/-- Whether the other slot is full. -/
def fullO (m : Md) : Bool := fullS m.s (viewM m) (1 - m.s.ac)
def swS (s : St) (g w : Int) : St := { s with gn := g, sw := w }
theorem full_sw (m : Md) (g w : Int) : fullO { m with s := swS m.s g w } = fullO m := rfl
theorem go_act {n : Nat} {m : Md} {a : Int} {r : Rc} (h : nextS m.s (viewM m) m.tick = (a, r)) : goM (n + 1) m = if a = 0 then (m, 0) else if a = 5 then routeM m else if a ≠ 2 ∧ a ≠ 3 then ((putM m r).1, 0) else if (putM m r).2 = false then ((putM m r).1, 9) else goM n (putM m r).1 := by rw [goM, h]
theorem go_route {m : Md} (h : m.s.ph = 3 ∨ m.s.ph = 6) (hs : m.s.sw = 2) (n : Nat) : goM (n + 1) m = routeM m := by
  rw [go_act (nx_route h hs), if_neg (by decide), if_pos rfl]
theorem go_commit {m : Md} (hI : SetI m) (h : m.s.ph = 3 ∨ m.s.ph = 6) (hs : m.s.sw = 1) (hf : fullO m = true) (n : Nat) : goM (n + 2) m = routeM { m with s := swS m.s m.s.gn 2 } := by
  have hp := put_w hI (stp_commit hI.right hs) rfl rfl
  rw [go_act (nx_commit h hs hf), if_neg (by decide), if_neg (by decide), if_neg (by decide), hp, if_neg (by intro h; cases h)]
  exact go_route (m := { m with s := swS m.s m.s.gn 2 }) h rfl n
theorem go_prep {m : Md} (hI : SetI m) (h : m.s.ph = 3 ∨ m.s.ph = 6) (hs : m.s.sw = 0) (hf : fullO m = true) (hg : m.s.gn < 1048576) (n : Nat) : goM (n + 3) m = routeM { m with s := swS m.s (m.s.gn + 1) 2 } := by
  have hp := put_w hI (stp_prep hI.right h hs hg) rfl rfl
  have hi := right_in hI.right
  have h2 := set_with hI (s' := swS m.s (m.s.gn + 1) 1) (right_switch hI.right h (by omega) (by omega)) rfl rfl
  rw [go_act (nx_prep h hs hf), if_neg (by decide), if_neg (by decide), if_neg (by decide), hp, if_neg (by intro h; cases h)]
  exact go_commit (m := { m with s := swS m.s (m.s.gn + 1) 1 }) h2 h rfl hf n
/-- The state of a committed switch. -/
def comS (s : St) : St := swS s (if s.sw = 0 then s.gn + 1 else s.gn) 2
theorem com_2 {s : St} (h : s.sw = 2) : comS s = s := by
  obtain ⟨ph, ac, r0, r1, w0, w1, p0, p1, dl, gn, sw, fl⟩ := s
  have h : sw = 2 := h
  subst h
  rfl
/-- A step's ways. -/
inductive Way (m : Md) : Prop
  | wait (h : m.s.ph = 0 ∨ m.s.ph = 2 ∨ m.s.ph = 4 ∨ m.s.ph = 1 ∧ fullO m = false ∨ (m.s.ph = 3 ∨ m.s.ph = 6) ∧ m.s.sw = 0 ∧ fullO m = false ∨ m.s.ph = 5 ∧ lessI m.tick m.s.fl < m.s.dl) (e : goM 4 m = (m, 0))
  | warm (h : m.s.ph = 1) (hf : fullO m = true) (e : goM 4 m = ({ m with s := { m.s with ph := 2 } }, 0))
  | cancel (h : m.s.ph = 3 ∨ m.s.ph = 6) (hs : m.s.sw = 1) (hf : fullO m = false) (e : goM 4 m = ({ m with s := swS m.s (m.s.gn - 1) 0 }, 0))
  | scale (h : m.s.ph = 7 ∨ m.s.ph = 5 ∧ m.s.dl ≤ lessI m.tick m.s.fl) (e : goM 4 m = (fleetM m (blankS m.s), 0))
  | over (h : m.s.ph = 3 ∨ m.s.ph = 6) (hs : m.s.sw = 0) (hf : fullO m = true) (hg : 1048576 ≤ m.s.gn) (e : goM 4 m = (m, 9))
  | route (h : m.s.ph = 3 ∨ m.s.ph = 6) (hs : m.s.sw = 2 ∨ fullO m = true) (hg : m.s.sw = 0 → m.s.gn < 1048576) (e : goM 4 m = routeM { m with s := comS m.s })
theorem ways {m : Md} (hI : SetI m) : Way m := by
  have hi := right_in hI.right
  by_cases h3 : m.s.ph = 3 ∨ m.s.ph = 6
  · by_cases s2 : m.s.sw = 2
    · refine .route h3 (.inl s2) (by omega) ?_
      rw [go_route h3 s2 3, com_2 s2]
    by_cases s1 : m.s.sw = 1
    · cases hf : fullO m with
      | true =>
        refine .route h3 (.inr hf) (by omega) ?_
        rw [go_commit hI h3 s1 hf 2]
        unfold comS
        rw [if_neg (by omega)]
      | false =>
        refine .cancel h3 s1 hf ?_
        have hp := put_w hI (stp_cancel hI.right s1) rfl rfl
        rw [go_act (nx_cancel h3 s1 hf), if_neg (by decide), if_neg (by decide), if_pos (by decide), hp]
        rfl
    have s0 : m.s.sw = 0 := by omega
    cases hf : fullO m with
    | true =>
      by_cases hg : m.s.gn < 1048576
      · refine .route h3 (.inr hf) (fun _ => hg) ?_
        rw [go_prep hI h3 s0 hf hg 1]
        unfold comS
        rw [if_pos s0]
      · refine .over h3 s0 hf (by omega) ?_
        have hp := put_no hI (stp_prep_no hI.right (by omega))
        rw [go_act (nx_prep h3 s0 hf), if_neg (by decide), if_neg (by decide), if_neg (by decide), hp, if_pos rfl]
    | false =>
      refine .wait (.inr (.inr (.inr (.inr (.inl ⟨h3, s0, hf⟩))))) ?_
      rw [go_act (nx_wait h3 s0 hf), if_pos rfl]
  by_cases h1 : m.s.ph = 1 ∧ fullO m = true
  · refine .warm h1.1 h1.2 ?_
    have hp := put_w hI (stp_warm hI.right h1.1) rfl rfl
    rw [go_act (nx_warm h1.1 h1.2), if_neg (by decide), if_neg (by decide), if_pos (by decide), hp]
  by_cases h7 : m.s.ph = 7 ∨ m.s.ph = 5 ∧ m.s.dl ≤ lessI m.tick m.s.fl
  · refine .scale h7 ?_
    rw [go_act (nx_scale h7), if_neg (by decide), if_neg (by decide), if_pos (by decide)]
    unfold putM
    rw [stp_scale hI.right (by omega)]
  · refine .wait ?_ ?_
    · by_cases e1 : m.s.ph = 1
      · have : fullO m = false := by
          cases hf : fullO m with
          | false => rfl
          | true => exact absurd ⟨e1, hf⟩ h1
        exact .inr (.inr (.inr (.inl ⟨e1, this⟩)))
      · omega
    · rw [go_act (nx_none h1 h3 h7), if_pos rfl]
theorem route_is {m : Md} (hI : SetI m) (hs : m.s.sw = 2) (ht : 0 ≤ m.tick ∧ m.tick ≤ 1073741824) : routeM m = if toldM m = 0 then ({ callM m with s := appS m.s m.tick }, 0) else (callM m, toldM m) := by
  have hc : SetI (callM m) := ⟨hI.right, hI.lk, hI.ll⟩
  unfold routeM
  split
  · have hp := put_w hc (r := rec8 m.s.gn m.tick) (stp_apply hI.right hs ht) rfl rfl
    rw [hp]
  · rfl
/-- A committed switch of a model: what holds of it. -/
theorem com_inv {m : Md} (h : MdI m) (hp : m.s.ph = 3 ∨ m.s.ph = 6) (hg : m.s.sw = 0 → m.s.gn < 1048576) : MdI { m with s := comS m.s } ∧ 0 < (comS m.s).gn ∧ (comS m.s).gn ≤ 1048576 := by
  have hi := right_in h.right
  have hs := (right_x h.right).2.2.2.2.2.2.2.2.2
  have hgn : 0 < (comS m.s).gn ∧ (comS m.s).gn ≤ 1048576 := by
    unfold comS swS
    simp only
    split <;> omega
  refine ⟨⟨right_switch h.right hp hgn (by omega), h.lk, h.ll, h.tick, h.fuse, ?_, ?_⟩, hgn⟩
  · have := h.gen
    show 0 ≤ m.ro.gen ∧ m.ro.gen ≤ (comS m.s).gn
    have e : (comS m.s).gn = if m.s.sw = 0 then m.s.gn + 1 else m.s.gn := rfl
    rw [e]
    split <;> omega
  · show ((2 : Int) = 2 ∧ m.ro.slot = 1 - m.s.ac ∧ m.ro.gen = (comS m.s).gn) ∨ (m.ro.slot = m.s.ac ∧ ((2 : Int) ≠ 0 → m.ro.gen < (comS m.s).gn))
    have hc := h.cell
    have hge := h.gen
    have e : (comS m.s).gn = if m.s.sw = 0 then m.s.gn + 1 else m.s.gn := rfl
    rw [e]
    clear hgn e
    by_cases s0 : m.s.sw = 0
    · rw [if_pos s0]; omega
    · rw [if_neg s0]; omega
/-- What a step's call of the router leaves. -/
theorem route_inv {m : Md} (h : MdI m) (hs : m.s.sw = 2) : MdI (routeM m).1 ∧
    ((routeM m).2 = 0 ∧ (routeM m).1 = { callM m with s := appS m.s m.tick } ∧ (callM m).ro.slot = 1 - m.s.ac ∧ (callM m).ro.gen = m.s.gn ∧ (callM m).ro.outs.length ≤ m.ro.outs.length
      ∨ (routeM m).2 = 10 ∧ (routeM m).1 = callM m ∧ (callM m).ro.outs.length < m.ro.outs.length) := by
  have hx := (right_x h.right).2.2.2.2.2.2.2.2.2
  have hi := right_in h.right
  have hr : inRange m.s.gn (1 - m.s.ac) := by unfold inRange; omega
  have hc := h.cell
  have hgn := h.gen
  rw [route_is h.set hs h.tick]
  rcases set_told h.fuse hr (by omega) with ⟨h1, h2, h3, h4⟩ | ⟨h1, h2⟩
  · rw [if_pos h1]
    refine ⟨⟨?_, h.lk, h.ll, h.tick, call_free h.fuse, ?_, ?_⟩, .inl ⟨rfl, rfl, h2, h3, h4⟩⟩
    · have := right_step (rec8 m.s.gn m.tick) h.right
      rw [stp_apply h.right hs h.tick] at this
      exact this
    · show 0 ≤ (callM m).ro.gen ∧ (callM m).ro.gen ≤ m.s.gn
      omega
    · exact .inr ⟨h2, fun h => absurd rfl h⟩
  · rw [if_neg (by rw [h1]; decide)]
    have hcell := call_route h.fuse hr
    refine ⟨⟨h.right, h.lk, h.ll, h.tick, call_free h.fuse, ?_, ?_⟩, .inr ⟨h1, rfl, h2⟩⟩
    · show 0 ≤ (callM m).ro.gen ∧ (callM m).ro.gen ≤ m.s.gn
      omega
    · show (m.s.sw = 2 ∧ (callM m).ro.slot = 1 - m.s.ac ∧ (callM m).ro.gen = m.s.gn) ∨ ((callM m).ro.slot = m.s.ac ∧ (m.s.sw ≠ 0 → (callM m).ro.gen < m.s.gn))
      omega
theorem script_is {m : Md} (h : SetI m) (xs : List Int) : scriptM m xs = { m with ro := { m.ro with outs := m.ro.outs ++ xs } } := by
  unfold scriptM
  rw [fleet_same h]
theorem script_inv {m : Md} (h : MdI m) (xs : List Int) : MdI { m with ro := { m.ro with outs := m.ro.outs ++ xs } } := ⟨h.right, h.lk, h.ll, h.tick, h.fuse, h.gen, h.cell⟩
theorem blank_cells (s : St) : (blankS s).ac = s.ac ∧ (blankS s).gn = s.gn ∧ (blankS s).sw = s.sw ∧ (blankS s).fl = s.fl ∧ (blankS s).ph = 0 := by
  unfold blankS
  split <;> exact ⟨rfl, rfl, rfl, rfl, rfl⟩
theorem go_inv {m : Md} (h : MdI m) : MdI (goM 4 m).1 := by
  have hi := right_in h.right
  have hx := (right_x h.right).2.2.2.2.2.2.2.2.2
  have hc := h.cell
  have hgn := h.gen
  rcases ways h.set with ⟨_, e⟩ | ⟨h1, _, e⟩ | ⟨h1, hs, _, e⟩ | ⟨h1, e⟩ | ⟨_, _, _, _, e⟩ | ⟨h1, _, hg, e⟩ <;> rw [e]
  · exact h
  · have hr := right_step (rcK 3 0) h.right
    rw [stp_warm h.right h1] at hr
    exact ⟨hr, h.lk, h.ll, h.tick, h.fuse, h.gen, h.cell⟩
  · have hr := right_step (rcK 7 m.s.gn) h.right
    rw [stp_cancel h.right hs] at hr
    refine ⟨hr, h.lk, h.ll, h.tick, h.fuse, ?_, ?_⟩
    · show 0 ≤ m.ro.gen ∧ m.ro.gen ≤ m.s.gn - 1
      omega
    · show ((0 : Int) = 2 ∧ _ ∧ _) ∨ (m.ro.slot = m.s.ac ∧ ((0 : Int) ≠ 0 → _))
      exact .inr ⟨by omega, fun h => absurd rfl h⟩
  · have hr := right_step (rcK 10 0) h.right
    rw [stp_scale h.right (by omega)] at hr
    have hf := fleet_set m hr
    obtain ⟨b1, b2, b3, _, _⟩ := blank_cells m.s
    refine ⟨hr, hf.lk, hf.ll, h.tick, h.fuse, ?_, ?_⟩
    · show 0 ≤ m.ro.gen ∧ m.ro.gen ≤ (blankS m.s).gn
      omega
    · show ((blankS m.s).sw = 2 ∧ m.ro.slot = 1 - (blankS m.s).ac ∧ m.ro.gen = (blankS m.s).gn) ∨ (m.ro.slot = (blankS m.s).ac ∧ ((blankS m.s).sw ≠ 0 → m.ro.gen < (blankS m.s).gn))
      omega
  · exact h
  · exact (route_inv (com_inv h h1 hg).1 rfl).1
theorem step_inv {m : Md} (h : MdI m) (xs : List Int) : MdI (stepM m xs).1 := by
  unfold stepM
  rw [script_is h.set]
  exact go_inv (script_inv h xs)
/-- An operation's record leaves the active slot, the generation, the switch. -/
theorem op_kinds {s : St} {o : Oc} {now : Int} (h : chkS s o now = 0) : o.kind = 1 ∨ o.kind = 2 ∨ o.kind = 4 ∨ o.kind = 9 := by
  unfold chkS chkX at h
  split at h
  · omega
  · split at h
    · cases h
    · omega
theorem op_keep (s : St) {o : Oc} (hk : o.kind = 1 ∨ o.kind = 2 ∨ o.kind = 4 ∨ o.kind = 9) : (stepS s (recO o)).1.ac = s.ac ∧ (stepS s (recO o)).1.gn = s.gn ∧ (stepS s (recO o)).1.sw = s.sw ∧ (stepS s (recO o)).1.fl = s.fl := by
  have pk : ∀ (n : St) (b : Bool), (n.ac = s.ac ∧ n.gn = s.gn ∧ n.sw = s.sw ∧ n.fl = s.fl) → ((pickS s n b).1.ac = s.ac ∧ (pickS s n b).1.gn = s.gn ∧ (pickS s n b).1.sw = s.sw ∧ (pickS s n b).1.fl = s.fl) := by
    intro n b h
    unfold pickS
    cases b
    · exact ⟨rfl, rfl, rfl, rfl⟩
    · exact h
  have kd : (recO o).kind = o.kind := by
    unfold recO
    split
    · rename_i h; exact h.symm
    · split <;> rfl
  have hb := blank_cells s
  have hset : ∀ a b c, (setO s a b c).ac = s.ac ∧ (setO s a b c).gn = s.gn ∧ (setO s a b c).sw = s.sw ∧ (setO s a b c).fl = s.fl := by
    intro a b c
    unfold setO
    split <;> exact ⟨rfl, rfl, rfl, rfl⟩
  have hsp : (setP s true).ac = s.ac ∧ (setP s true).gn = s.gn ∧ (setP s true).sw = s.sw ∧ (setP s true).fl = s.fl := by
    unfold setP
    split <;> exact ⟨rfl, rfl, rfl, rfl⟩
  unfold stepS
  rw [kd]
  rcases hk with e | e | e | e <;> rw [e] <;> simp only [show ¬ (2 : Int) = 1 by decide, show ¬ (4 : Int) = 1 by decide, show ¬ (4 : Int) = 2 by decide, show ¬ (4 : Int) = 3 by decide, show ¬ (9 : Int) = 1 by decide, show ¬ (9 : Int) = 2 by decide, show ¬ (9 : Int) = 3 by decide, show ¬ (9 : Int) = 4 by decide, show ¬ (9 : Int) = 5 by decide, show ¬ (9 : Int) = 6 by decide, show ¬ (9 : Int) = 7 by decide, show ¬ (9 : Int) = 8 by decide, if_true, if_false] <;> (split; exact ⟨rfl, rfl, rfl, rfl⟩)
  · unfold step1
    split
    · exact ⟨rfl, rfl, rfl, rfl⟩
    · split
      · exact ⟨rfl, rfl, rfl, rfl⟩
      · exact hset _ _ _
  · unfold step2
    split
    · exact ⟨hb.1, hb.2.1, hb.2.2.1, hb.2.2.2.1⟩
    · exact pk _ _ ⟨rfl, rfl, rfl, rfl⟩
  · unfold step4
    split
    · exact ⟨hb.1, hb.2.1, hb.2.2.1, hb.2.2.2.1⟩
    · exact pk _ _ hsp
  · unfold step9
    exact pk _ _ ⟨rfl, rfl, rfl, rfl⟩
theorem put_inv {m : Md} (h : MdI m) {r : Rc} (hk : (stepS m.s r).1.ac = m.s.ac ∧ (stepS m.s r).1.gn = m.s.gn ∧ (stepS m.s r).1.sw = m.s.sw) : MdI (putM m r).1 := by
  have hs := put_set m r h.right
  obtain ⟨h1, h2, h3⟩ := hk
  have hc := h.cell
  have hg := h.gen
  refine ⟨hs.right, hs.lk, hs.ll, h.tick, h.fuse, ?_, ?_⟩
  · show 0 ≤ m.ro.gen ∧ m.ro.gen ≤ (stepS m.s r).1.gn
    omega
  · show ((stepS m.s r).1.sw = 2 ∧ m.ro.slot = 1 - (stepS m.s r).1.ac ∧ m.ro.gen = (stepS m.s r).1.gn) ∨ (m.ro.slot = (stepS m.s r).1.ac ∧ ((stepS m.s r).1.sw ≠ 0 → m.ro.gen < (stepS m.s r).1.gn))
    omega
theorem op_inv {m : Md} (h : MdI m) (o : Oc) : MdI (opM m o).1 := by
  unfold opM
  split
  · rename_i hc
    have hk := op_keep m.s (op_kinds hc)
    exact put_inv h ⟨hk.1, hk.2.1, hk.2.2.1⟩
  · exact h
theorem ready_inv {m : Md} (h : MdI m) (s i : Int) (on : Bool) : MdI (readyM m s i on) := ⟨h.right, by show ((rdA m.k s i on).length : Int) = _; rw [rdA_len]; exact h.lk, by show ((rdB m.l s i on).length : Int) = _; rw [rdB_len]; exact h.ll, h.tick, h.fuse, h.gen, h.cell⟩
theorem fill_inv {m : Md} (h : MdI m) : MdI (fillM m) := ⟨h.right, by show ((fillL m.k).length : Int) = _; rw [fillL_len]; exact h.lk, by show ((fillL m.l).length : Int) = _; rw [fillL_len]; exact h.ll, h.tick, h.fuse, h.gen, h.cell⟩
theorem add_in {a b : Int} (h : 0 ≤ a ∧ a ≤ 1073741824) : a ≤ addI a b 1073741824 ∧ addI a b 1073741824 ≤ 1073741824 ∧ addI a b 1073741824 - a = min (max b 0) (1073741824 - a) := by unfold addI; omega
theorem tick_inv {m : Md} (h : MdI m) (n : Int) : MdI (tickM m n) := ⟨h.right, h.lk, h.ll, by have := add_in (b := n) h.tick; have := h.tick; show 0 ≤ addI m.tick n 1073741824 ∧ addI m.tick n 1073741824 ≤ 1073741824; omega, h.fuse, h.gen, h.cell⟩
theorem new_inv {rev n tries : Int} (h : rightS (firstS rev n) = true) : MdI (newM (firstS rev n) tries) := by
  have hs := fleet_set ⟨firstS rev n, [], [], ⟨0, 0, [], 0⟩, ⟨false, 0, false, 0⟩, tries, 0⟩ h
  exact fill_inv ⟨h, hs.lk, hs.ll, ⟨Int.le_refl _, by show (0 : Int) ≤ 1073741824; decide⟩, rfl, ⟨Int.le_refl _, Int.le_refl _⟩, .inr ⟨rfl, fun h => absurd rfl h⟩⟩
end Go.Proofs.Ytchaeidmjoelnaa
namespace Go.Proofs.Ytchaeidmjoelnaa

theorem full_script (m : Md) (r : Ro) : fullO { m with ro := r } = fullO m := rfl
theorem passed_o {s : St} (h : rightS s = true) (hp : 2 < s.ph) : poS s = true := by
  have hx := (right_x h).2.2.2.2.2.2.2.2.1
  rw [hx (by omega)]
  exact decide_eq_true hp
/-- The route changes to the other slot's, with a greater generation; its gate has passed, and it was full, unless the switch was prepared. -/
def RouteTo (m m' : Md) : Prop := (m'.ro.slot = m.ro.slot ∧ m'.ro.gen = m.ro.gen) ∨ (m'.ro.slot = 1 - m.s.ac ∧ m.ro.gen < m'.ro.gen ∧ poS m.s = true ∧ (m.s.sw = 0 → fullO m = true))
theorem go_to {m : Md} (h : MdI m) : RouteTo m (goM 4 m).1 := by
  rcases ways h.set with ⟨_, e⟩ | ⟨_, _, e⟩ | ⟨_, _, _, e⟩ | ⟨_, e⟩ | ⟨_, _, _, _, e⟩ | ⟨h1, hs, hg, e⟩ <;> rw [e]
  · exact .inl ⟨rfl, rfl⟩
  · exact .inl ⟨rfl, rfl⟩
  · exact .inl ⟨rfl, rfl⟩
  · exact .inl ⟨rfl, rfl⟩
  · exact .inl ⟨rfl, rfl⟩
  · obtain ⟨hI, hg0, hg1⟩ := com_inv h h1 hg
    have hi := right_in h.right
    have hr : inRange (comS m.s).gn (1 - (comS m.s).ac) := by
      have : (comS m.s).ac = m.s.ac := rfl
      unfold inRange
      omega
    have hc := call_route (m := { m with s := comS m.s }) hI.fuse hr
    have hro : (routeM { m with s := comS m.s }).1.ro = (callM { m with s := comS m.s }).ro := by
      rcases (route_inv hI rfl).2 with ⟨_, e2, _⟩ | ⟨_, e2, _⟩ <;> rw [e2]
    unfold RouteTo
    rw [hro]
    rcases hc with hc | ⟨c1, c2, c3⟩
    · exact .inl hc
    · exact .inr ⟨c1, by rw [c2]; exact c3, passed_o h.right (by omega), fun h0 => hs.resolve_left (by omega)⟩
theorem step_to {m : Md} (h : MdI m) (xs : List Int) : RouteTo m (stepM m xs).1 := by
  unfold stepM
  rw [script_is h.set]
  exact go_to (script_inv h xs)
theorem op_ro (m : Md) (o : Oc) : (opM m o).1.ro = m.ro := by
  unfold opM
  split <;> rfl
theorem cell_in {m : Md} (h : MdI m) : (m.ro.slot = m.s.ac ∨ m.s.sw = 2) ∧ m.ro.gen ≤ m.s.gn := by
  have := h.cell
  have := h.gen
  omega

/-! What is kept. -/
def wK (s : St) (slot : Int) : Int := if slot = 0 then s.w0 else s.w1
def AheadS (s : St) : Prop := s.ph = 1 ∨ s.ph = 2 ∨ s.ph = 3 ∧ s.sw = 0
def BehindM (m : Md) : Prop := m.s.ph = 7 ∨ m.s.ph = 5 ∧ (m.s.dl = 0 ∨ m.s.dl ≤ m.tick - m.s.fl)
def Keeps1 (m m' : Md) (slot : Int) : Prop := wK m'.s slot < wK m.s slot → (slot ≠ m.s.ac ∧ slot ≠ m.ro.slot ∧ slot ≠ m'.ro.slot) ∧ (AheadS m.s ∨ BehindM m)
theorem slot_none {m : Md} (h : MdI m) (hs : m.s.sw ≠ 2) : m.ro.slot = m.s.ac := by have := h.cell; omega
theorem blank_w (s : St) (slot : Int) (hs : slot = 0 ∨ slot = 1) (ha : s.ac = 0 ∨ s.ac = 1) : wK (blankS s) slot = if slot = s.ac then wK s slot else 0 := by
  unfold wK blankS
  rcases hs with rfl | rfl <;> rcases ha with e | e <;> simp [e]
theorem blank_keeps {m m' : Md} (h : MdI m) (hs : m'.s = blankS m.s) (hr : m'.ro = m.ro) (hw : m.s.sw ≠ 2) (hc : AheadS m.s ∨ BehindM m) {slot : Int} (h2 : slot = 0 ∨ slot = 1) : Keeps1 m m' slot := by
  intro hlt
  have hi := right_in h.right
  have hw2 := right_w h.right
  rw [hs, blank_w m.s slot h2 hi.1] at hlt
  have hsl := slot_none h hw
  rw [hr]
  by_cases e : slot = m.s.ac
  · rw [if_pos e] at hlt; omega
  · exact ⟨⟨e, by omega, by omega⟩, hc⟩
theorem same_keeps {m m' : Md} (h0 : m'.s.w0 = m.s.w0) (h1 : m'.s.w1 = m.s.w1) (slot : Int) : Keeps1 m m' slot := by
  intro hlt
  unfold wK at hlt
  rw [h0, h1] at hlt
  omega
theorem go_keeps {m : Md} (h : MdI m) {slot : Int} (h2 : slot = 0 ∨ slot = 1) : Keeps1 m (goM 4 m).1 slot := by
  have hx := (right_x h.right).2.2.2.2.2.2.2.2.2
  have hx1 := (right_x h.right).2.1
  rcases ways h.set with ⟨_, e⟩ | ⟨_, _, e⟩ | ⟨_, _, _, e⟩ | ⟨h1, e⟩ | ⟨_, _, _, _, e⟩ | ⟨h1, hs, hg, e⟩ <;> rw [e]
  · exact same_keeps (by rfl) (by rfl) _
  · exact same_keeps (by rfl) (by rfl) _
  · exact same_keeps (by rfl) (by rfl) _
  · refine blank_keeps h (by rfl) (by rfl) (by omega) (.inr ?_) h2
    unfold BehindM
    have := h.tick
    unfold lessI at h1
    rcases h1 with h1 | ⟨h1, h3⟩
    · exact .inl h1
    · right
      refine ⟨h1, ?_⟩
      split at h3 <;> omega
  · exact same_keeps (by rfl) (by rfl) _
  · obtain ⟨hI, _, _⟩ := com_inv h h1 hg
    rcases (route_inv hI rfl).2 with ⟨_, e2, _⟩ | ⟨_, e2, _⟩ <;> rw [e2] <;> exact same_keeps (by rfl) (by rfl) _
theorem step_keeps {m : Md} (h : MdI m) (xs : List Int) {slot : Int} (h2 : slot = 0 ∨ slot = 1) : Keeps1 m (stepM m xs).1 slot := by
  have hk := go_keeps (script_inv h xs) h2
  unfold stepM
  rw [script_is h.set]
  exact hk
theorem kind_o (o : Oc) : (recO o).kind = o.kind := by
  unfold recO
  split
  · rename_i h; exact h.symm
  · split <;> rfl
theorem step_op {s : St} (hr : rightS s = true) (o : Oc) : (o.kind = 1 → stepS s (recO o) = step1 s (recO o)) ∧ (o.kind = 2 → stepS s (recO o) = step2 s) ∧ (o.kind = 4 → stepS s (recO o) = step4 s (recO o)) ∧ (o.kind = 9 → stepS s (recO o) = step9 s (recO o)) := by
  unfold stepS
  rw [kind_o]
  refine ⟨?_, ?_, ?_, ?_⟩ <;> intro e <;> simp [hr, e]
theorem op_keeps {m : Md} (h : MdI m) (o : Oc) {slot : Int} (h2 : slot = 0 ∨ slot = 1) : Keeps1 m (opM m o).1 slot := by
  have hi := right_in h.right
  have hx := (right_x h.right).2
  have hs9 := hx.2.2.2.2.2.2.2.2
  unfold opM
  split
  · rename_i hc
    have hk := step_op h.right o
    rcases op_kinds hc with e | e | e | e
    · -- a deploy
      show Keeps1 m (fleetM m (stepS m.s (recO o)).1) slot
      rw [hk.1 e]
      unfold step1
      split
      · exact same_keeps (by rfl) (by rfl) _
      · split
        · exact same_keeps (by rfl) (by rfl) _
        · rename_i g1 g2
          intro hlt
          have hsl := slot_none h (by omega)
          have h0 := hx.2.2.2.2.1
          have hcnt : 1 ≤ (recO o).cnt := by omega
          generalize hq : (recO o).cnt = q at hcnt hlt
          generalize (recO o).rev = rv at hlt
          show (slot ≠ m.s.ac ∧ slot ≠ m.ro.slot ∧ slot ≠ m.ro.slot) ∧ _
          have hlt : wK (setO m.s rv q false) slot < wK m.s slot := by
            rw [← hq] at *
            exact hlt
          unfold wK setO at hlt
          unfold woS at h0
          unfold AheadS
          rcases h2 with rfl | rfl <;> rcases hi.1 with e2 | e2 <;> simp [e2] at hlt h0 <;> omega
    · show Keeps1 m (fleetM m (stepS m.s (recO o)).1) slot
      rw [hk.2.1 e]
      unfold step2
      split
      · rename_i g1
        exact blank_keeps h (by rfl) (by rfl) (by omega) (.inl (by unfold AheadS; omega)) h2
      · unfold pickS
        split <;> exact same_keeps (by rfl) (by rfl) _
    · show Keeps1 m (fleetM m (stepS m.s (recO o)).1) slot
      rw [hk.2.2.1 e]
      unfold step4
      split
      · rename_i g1
        exact blank_keeps h (by rfl) (by rfl) (by omega) (.inl (by unfold AheadS; omega)) h2
      · unfold pickS setP
        split
        · show Keeps1 m (fleetM m _) slot
          split <;> exact same_keeps (by rfl) (by rfl) _
        · exact same_keeps (by rfl) (by rfl) _
    · show Keeps1 m (fleetM m (stepS m.s (recO o)).1) slot
      rw [hk.2.2.2 e]
      unfold step9 pickS
      split <;> exact same_keeps (by rfl) (by rfl) _
  · exact same_keeps (by rfl) (by rfl) _

/-! Aborts, and a post-gate that fails. -/
def opAbort : Oc := ⟨2, 0, 0, 0, false⟩
def opPost (rev : Int) (pass : Bool) : Oc := ⟨9, rev, 0, 0, pass⟩
def opPre (rev : Int) (pass : Bool) : Oc := ⟨4, rev, 0, 0, pass⟩
theorem blank_wo (s : St) : wK (blankS s) (1 - s.ac) = 0 ∨ ¬ (s.ac = 0 ∨ s.ac = 1) := by
  by_cases h : s.ac = 0 ∨ s.ac = 1
  · left
    rw [blank_w s _ (by omega) h, if_neg (by omega)]
  · exact .inr h
/-- What an abort, or a post-gate that fails, leaves. -/
def AbortTo (m m' : Md) : Prop := m'.ro = m.ro ∧ m'.s.ac = m.s.ac ∧ (m.s.ph ≠ 4 ∧ m.s.ph ≠ 5 → m'.s.ph = 0 ∧ wK m'.s (1 - m.s.ac) = 0) ∧ (m.s.ph = 4 ∨ m.s.ph = 5 → m'.s.ph = 6 ∧ m'.s.w0 = m.s.w0 ∧ m'.s.w1 = m.s.w1)
theorem abort_is {m : Md} (h : MdI m) : ((opM m opAbort).2 = 7 ∧ (opM m opAbort).1 = m) ∨ ((opM m opAbort).2 = 0 ∧ AbortTo m (opM m opAbort).1) := by
  have hi := right_in h.right
  unfold opM
  have hc : chkS m.s opAbort m.tick = if m.s.ph = 0 ∨ 5 < m.s.ph ∨ m.s.ph = 3 ∧ 0 < m.s.sw then 7 else 0 := rfl
  rw [hc]
  by_cases g1 : m.s.ph = 0 ∨ 5 < m.s.ph ∨ m.s.ph = 3 ∧ 0 < m.s.sw
  · rw [if_pos g1, if_neg (by decide)]
    exact .inl ⟨rfl, rfl⟩
  · rw [if_neg g1, if_pos rfl]
    refine .inr ⟨rfl, rfl, (op_keep m.s (.inr (.inl rfl))).1, ?_⟩
    show (_ → (stepS m.s (recO opAbort)).1.ph = 0 ∧ wK (stepS m.s (recO opAbort)).1 (1 - m.s.ac) = 0) ∧ (_ → (stepS m.s (recO opAbort)).1.ph = 6 ∧ (stepS m.s (recO opAbort)).1.w0 = m.s.w0 ∧ (stepS m.s (recO opAbort)).1.w1 = m.s.w1)
    rw [(step_op h.right opAbort).2.1 rfl]
    unfold step2
    split
    · rename_i g2
      exact ⟨fun _ => ⟨(blank_cells m.s).2.2.2.2, (blank_wo m.s).resolve_right (fun h => h hi.1)⟩, fun h => by omega⟩
    · rename_i g2
      have g3 : m.s.ph = 4 ∨ m.s.ph = 5 := by omega
      rw [pick_yes _ _ g3]
      exact ⟨fun h => by omega, fun _ => ⟨rfl, rfl, rfl⟩⟩
theorem right_ra {s : St} (h : rightS s = true) : 1 ≤ raS s ∧ raS s ≤ 1073741824 := by
  have hx := (right_x h).2
  have h1 := hx.2.1
  have h2 := hx.2.2.1
  omega
theorem post_is {m : Md} (h : MdI m) (hp : m.s.ph = 4) (pass : Bool) : opM m (opPost (raS m.s) pass) = ({ m with s := { m.s with ph := if pass then 5 else 6 } }, 0) := by
  have hr := right_ra h.right
  have hc : chkS m.s (opPost (raS m.s) pass) m.tick = 0 := by
    unfold chkS chkX opPost
    simp only
    rw [if_neg (by decide), if_neg (by decide), if_neg (by omega), if_neg (by decide), if_pos trivial, if_neg (by omega), if_neg (by omega)]
  unfold opM
  rw [if_pos hc]
  have hs : stepS m.s (recO (opPost (raS m.s) pass)) = ({ m.s with ph := if pass then 5 else 6 }, true) := by
    rw [(step_op h.right _).2.2.2 rfl]
    unfold step9
    exact pick_yes _ _ hp
  rw [put_w h.set hs rfl rfl]
theorem post_fails {m : Md} (h : MdI m) (hp : m.s.ph = 4) : (opM m (opPost (raS m.s) false)).2 = 0 ∧ AbortTo m (opM m (opPost (raS m.s) false)).1 := by
  rw [post_is h hp]
  exact ⟨rfl, rfl, rfl, fun h => by omega, fun _ => ⟨rfl, rfl, rfl⟩⟩

/-! Ticks. -/
theorem tick_over {m : Md} (ht : 1073741824 ≤ m.tick) (rev cnt dl : Int) (h : 1 ≤ rev ∧ rev ≤ 1073741824 ∧ 1 ≤ cnt ∧ cnt ≤ 32 ∧ 0 ≤ dl ∧ dl ≤ 65536) : opM m ⟨1, rev, cnt, dl, false⟩ = (m, 9) := by
  have hc : chkS m.s ⟨1, rev, cnt, dl, false⟩ m.tick = 9 := by
    unfold chkS chkX
    simp only
    rw [if_neg (by decide), if_neg (by decide), if_neg (by omega), if_neg (by decide), if_neg (by decide), if_neg (by omega), if_pos (by omega)]
  unfold opM
  rw [hc, if_neg (by decide)]
/-! What is refused. -/
theorem op_no {m : Md} {o : Oc} (h : (opM m o).2 ≠ 0) : (opM m o).1 = m := by
  unfold opM at h ⊢
  split
  · rename_i g; rw [if_pos g] at h; exact absurd rfl h
  · rfl
theorem ready_no {m : Md} {s i : Int} {on : Bool} (h : ¬ isW (slotK s m.k m.l) i) : readyM m s i on = m := by
  unfold readyM rdA rdB
  unfold slotK at h
  by_cases h0 : s = 0
  · rw [if_pos h0] at h
    rw [if_pos h0, if_neg (by omega)]
    unfold readyL
    rw [if_neg h]
  · rw [if_neg h0] at h
    rw [if_neg h0]
    by_cases h1 : s = 1
    · rw [if_pos h1] at h
      rw [if_pos h1]
      unfold readyL
      rw [if_neg h]
    · rw [if_neg h1]
end Go.Proofs.Ytchaeidmjoelnaa
namespace Go.Proofs.Ytchaeidmjoelnaa

/-- There are generations left for the switches that are to come. -/
def RoomS (s : St) : Prop := (s.ph = 1 ∨ s.ph = 2 ∨ s.ph = 3 ∧ s.sw = 0 → s.gn ≤ 1048574) ∧ (s.ph = 3 ∧ s.sw ≠ 0 ∨ s.ph = 4 ∨ s.ph = 5 ∨ s.ph = 6 ∧ s.sw = 0 → s.gn ≤ 1048575)
structure SetlI (m : Md) : Prop where
  md : MdI m
  room : RoomS m.s
  fl : m.s.fl ≤ m.tick
theorem room_put {s : St} (hr : rightS s = true) (h : RoomS s) {o : Oc} {now : Int} (hc : chkS s o now = 0) : RoomS (stepS s (recO o)).1 := by
  have hk := step_op hr o
  have hx := (right_x hr).2.2.2.2.2.2.2.2.2
  unfold RoomS at h ⊢
  rcases op_kinds hc with e | e | e | e
  · have hg : s.gn ≤ 1048574 := by
      unfold chkS chkX at hc
      rw [e] at hc
      simp only [show ¬ (1 : Int) = 2 by decide, if_false, show ¬ ((1 : Int) ≠ 1 ∧ (1 : Int) ≠ 4 ∧ (1 : Int) ≠ 9) by decide, show ¬ (1 : Int) = 4 by decide, show ¬ (1 : Int) = 9 by decide] at hc
      split at hc
      · cases hc
      · split at hc
        · cases hc
        · split at hc
          · cases hc
          · omega
    rw [hk.1 e]
    unfold step1
    split
    · exact h
    · split
      · exact h
      · have e2 : ∀ r w p d, ({ setO s r w p with dl := d, ph := 1 } : St).gn = s.gn := by intro r w p d; unfold setO; split <;> rfl
        show ((1 : Int) = 1 ∨ _ → _) ∧ ((1 : Int) = 3 ∧ _ ∨ (1 : Int) = 4 ∨ (1 : Int) = 5 ∨ (1 : Int) = 6 ∧ _ → _)
        rw [e2]
        exact ⟨fun _ => hg, fun _ => by omega⟩
  · rw [hk.2.1 e]
    unfold step2
    split
    · obtain ⟨_, b2, b3, _, b5⟩ := blank_cells s
      show ((blankS s).ph = 1 ∨ (blankS s).ph = 2 ∨ (blankS s).ph = 3 ∧ (blankS s).sw = 0 → (blankS s).gn ≤ _) ∧ ((blankS s).ph = 3 ∧ (blankS s).sw ≠ 0 ∨ (blankS s).ph = 4 ∨ (blankS s).ph = 5 ∨ (blankS s).ph = 6 ∧ (blankS s).sw = 0 → (blankS s).gn ≤ _)
      omega
    · by_cases hp : s.ph = 4 ∨ s.ph = 5
      · rw [pick_yes _ _ hp]
        show ((6 : Int) = 1 ∨ (6 : Int) = 2 ∨ (6 : Int) = 3 ∧ s.sw = 0 → s.gn ≤ _) ∧ ((6 : Int) = 3 ∧ s.sw ≠ 0 ∨ (6 : Int) = 4 ∨ (6 : Int) = 5 ∨ (6 : Int) = 6 ∧ s.sw = 0 → s.gn ≤ _)
        omega
      · rw [pick_no _ _ hp]; exact h
  · rw [hk.2.2.1 e]
    unfold step4
    split
    · obtain ⟨_, b2, b3, _, b5⟩ := blank_cells s
      show ((blankS s).ph = 1 ∨ (blankS s).ph = 2 ∨ (blankS s).ph = 3 ∧ (blankS s).sw = 0 → (blankS s).gn ≤ _) ∧ ((blankS s).ph = 3 ∧ (blankS s).sw ≠ 0 ∨ (blankS s).ph = 4 ∨ (blankS s).ph = 5 ∨ (blankS s).ph = 6 ∧ (blankS s).sw = 0 → (blankS s).gn ≤ _)
      omega
    · by_cases hp : s.ph = 2
      · rw [pick_yes _ _ hp]
        have e2 : ({ setP s true with ph := 3 } : St).gn = s.gn ∧ ({ setP s true with ph := 3 } : St).sw = s.sw := by unfold setP; split <;> exact ⟨rfl, rfl⟩
        show ((3 : Int) = 1 ∨ (3 : Int) = 2 ∨ (3 : Int) = 3 ∧ ({ setP s true with ph := 3 } : St).sw = 0 → ({ setP s true with ph := 3 } : St).gn ≤ _) ∧ ((3 : Int) = 3 ∧ ({ setP s true with ph := 3 } : St).sw ≠ 0 ∨ (3 : Int) = 4 ∨ (3 : Int) = 5 ∨ (3 : Int) = 6 ∧ ({ setP s true with ph := 3 } : St).sw = 0 → ({ setP s true with ph := 3 } : St).gn ≤ _)
        rw [e2.1, e2.2]
        omega
      · rw [pick_no _ _ hp]; exact h
  · rw [hk.2.2.2 e]
    unfold step9
    by_cases hp : s.ph = 4
    · rw [pick_yes _ _ hp]
      cases (recO o).pass
      · show ((6 : Int) = 1 ∨ (6 : Int) = 2 ∨ (6 : Int) = 3 ∧ s.sw = 0 → s.gn ≤ _) ∧ ((6 : Int) = 3 ∧ s.sw ≠ 0 ∨ (6 : Int) = 4 ∨ (6 : Int) = 5 ∨ (6 : Int) = 6 ∧ s.sw = 0 → s.gn ≤ _)
        omega
      · show ((5 : Int) = 1 ∨ (5 : Int) = 2 ∨ (5 : Int) = 3 ∧ s.sw = 0 → s.gn ≤ _) ∧ ((5 : Int) = 3 ∧ s.sw ≠ 0 ∨ (5 : Int) = 4 ∨ (5 : Int) = 5 ∨ (5 : Int) = 6 ∧ s.sw = 0 → s.gn ≤ _)
        omega
    · rw [pick_no _ _ hp]; exact h
theorem setl_op {m : Md} (h : SetlI m) (o : Oc) : SetlI (opM m o).1 := by
  refine ⟨op_inv h.md o, ?_, ?_⟩
  · unfold opM
    split
    · rename_i hc
      exact room_put h.md.right h.room hc
    · exact h.room
  · unfold opM
    split
    · rename_i hc
      have hk := (op_keep m.s (op_kinds hc)).2.2.2
      show (stepS m.s (recO o)).1.fl ≤ m.tick
      rw [hk]
      exact h.fl
    · exact h.fl
theorem setl_ready {m : Md} (h : SetlI m) (s i : Int) (on : Bool) : SetlI (readyM m s i on) := ⟨ready_inv h.md s i on, h.room, h.fl⟩
theorem setl_fill {m : Md} (h : SetlI m) : SetlI (fillM m) := ⟨fill_inv h.md, h.room, h.fl⟩
theorem setl_tick {m : Md} (h : SetlI m) (n : Int) : SetlI (tickM m n) := ⟨tick_inv h.md n, h.room, by
  have := add_in (b := n) h.md.tick
  have := h.fl
  show m.s.fl ≤ addI m.tick n 1073741824
  omega⟩
theorem setl_new {rev n tries : Int} (h : rightS (firstS rev n) = true) : SetlI (newM (firstS rev n) tries) := ⟨new_inv h, ⟨fun h => by
    have h : (0 : Int) = 1 ∨ (0 : Int) = 2 ∨ (0 : Int) = 3 ∧ _ := h
    omega, fun h => by
    have h : (0 : Int) = 3 ∧ _ ∨ (0 : Int) = 4 ∨ (0 : Int) = 5 ∨ (0 : Int) = 6 ∧ _ := h
    omega⟩, Int.le_refl _⟩
theorem setl_go {m : Md} (h : SetlI m) : SetlI (goM 4 m).1 := by
  have hI := go_inv h.md
  refine ⟨hI, ?_, ?_⟩
  · have hroom := h.room
    have hx := (right_x h.md.right).2.2.2.2.2.2.2.2.2
    have hx1 := (right_x h.md.right).2.1
    unfold RoomS at hroom
    rcases ways h.md.set with ⟨_, e⟩ | ⟨h1, _, e⟩ | ⟨h1, hs, _, e⟩ | ⟨h1, e⟩ | ⟨_, _, _, _, e⟩ | ⟨h1, hs, hg, e⟩ <;> rw [e]
    · exact h.room
    · show ((2 : Int) = 1 ∨ (2 : Int) = 2 ∨ (2 : Int) = 3 ∧ _ → m.s.gn ≤ _) ∧ ((2 : Int) = 3 ∧ _ ∨ (2 : Int) = 4 ∨ (2 : Int) = 5 ∨ (2 : Int) = 6 ∧ _ → m.s.gn ≤ _)
      exact ⟨fun _ => hroom.1 (.inl h1), fun h => by omega⟩
    · show (m.s.ph = 1 ∨ m.s.ph = 2 ∨ m.s.ph = 3 ∧ (0 : Int) = 0 → m.s.gn - 1 ≤ _) ∧ (m.s.ph = 3 ∧ (0 : Int) ≠ 0 ∨ m.s.ph = 4 ∨ m.s.ph = 5 ∨ m.s.ph = 6 ∧ (0 : Int) = 0 → m.s.gn - 1 ≤ _)
      omega
    · obtain ⟨_, b2, b3, _, b5⟩ := blank_cells m.s
      show ((blankS m.s).ph = 1 ∨ (blankS m.s).ph = 2 ∨ (blankS m.s).ph = 3 ∧ (blankS m.s).sw = 0 → (blankS m.s).gn ≤ _) ∧ ((blankS m.s).ph = 3 ∧ (blankS m.s).sw ≠ 0 ∨ (blankS m.s).ph = 4 ∨ (blankS m.s).ph = 5 ∨ (blankS m.s).ph = 6 ∧ (blankS m.s).sw = 0 → (blankS m.s).gn ≤ _)
      omega
    · exact h.room
    · obtain ⟨hI2, _, _⟩ := com_inv h.md h1 hg
      have hgn : (comS m.s).gn = if m.s.sw = 0 then m.s.gn + 1 else m.s.gn := rfl
      have hgc : (comS m.s).gn ≤ 1048575 ∨ m.s.ph = 6 := by
        rw [hgn]
        by_cases s0 : m.s.sw = 0
        · rw [if_pos s0]; omega
        · rw [if_neg s0]; omega
      rcases (route_inv hI2 rfl).2 with ⟨_, e2, _⟩ | ⟨_, e2, _⟩ <;> rw [e2]
      · show ((if m.s.ph = 3 then (4 : Int) else 7) = 1 ∨ (if m.s.ph = 3 then (4 : Int) else 7) = 2 ∨ (if m.s.ph = 3 then (4 : Int) else 7) = 3 ∧ (0 : Int) = 0 → (comS m.s).gn ≤ _) ∧ ((if m.s.ph = 3 then (4 : Int) else 7) = 3 ∧ (0 : Int) ≠ 0 ∨ (if m.s.ph = 3 then (4 : Int) else 7) = 4 ∨ (if m.s.ph = 3 then (4 : Int) else 7) = 5 ∨ (if m.s.ph = 3 then (4 : Int) else 7) = 6 ∧ (0 : Int) = 0 → (comS m.s).gn ≤ _)
        by_cases h3 : m.s.ph = 3
        · rw [if_pos h3]; omega
        · rw [if_neg h3]; omega
      · show (m.s.ph = 1 ∨ m.s.ph = 2 ∨ m.s.ph = 3 ∧ (2 : Int) = 0 → (comS m.s).gn ≤ _) ∧ (m.s.ph = 3 ∧ (2 : Int) ≠ 0 ∨ m.s.ph = 4 ∨ m.s.ph = 5 ∨ m.s.ph = 6 ∧ (2 : Int) = 0 → (comS m.s).gn ≤ _)
        omega
  · have hfl := h.fl
    rcases ways h.md.set with ⟨_, e⟩ | ⟨h1, _, e⟩ | ⟨h1, hs, _, e⟩ | ⟨h1, e⟩ | ⟨_, _, _, _, e⟩ | ⟨h1, hs, hg, e⟩ <;> rw [e]
    · exact hfl
    · exact hfl
    · exact hfl
    · show (blankS m.s).fl ≤ m.tick
      rw [(blank_cells m.s).2.2.2.1]
      exact hfl
    · exact hfl
    · obtain ⟨hI2, _, _⟩ := com_inv h.md h1 hg
      rcases (route_inv hI2 rfl).2 with ⟨_, e2, _⟩ | ⟨_, e2, _⟩ <;> rw [e2]
      · exact Int.le_refl _
      · exact hfl
theorem setl_step {m : Md} (h : SetlI m) (xs : List Int) : SetlI (stepM m xs).1 := by
  unfold stepM
  rw [script_is h.md.set]
  exact setl_go (m := { m with ro := { m.ro with outs := m.ro.outs ++ xs } }) ⟨script_inv h.md xs, h.room, h.fl⟩
/-- How many outcomes are to come: a step uses some. -/
theorem go_outs {m : Md} (h : MdI m) : (goM 4 m).1.ro.outs.length ≤ m.ro.outs.length := by
  rcases ways h.set with ⟨_, e⟩ | ⟨_, _, e⟩ | ⟨_, _, _, e⟩ | ⟨_, e⟩ | ⟨_, _, _, _, e⟩ | ⟨h1, hs, hg, e⟩ <;> rw [e]
  · exact Nat.le_refl _
  · exact Nat.le_refl _
  · exact Nat.le_refl _
  · exact Nat.le_refl _
  · exact Nat.le_refl _
  · obtain ⟨hI2, _, _⟩ := com_inv h h1 hg
    rcases (route_inv hI2 rfl).2 with ⟨_, e2, _, _, e3⟩ | ⟨_, e2, e3⟩ <;> rw [e2]
    · exact e3
    · exact Nat.le_of_lt e3
theorem step_outs {m : Md} (h : MdI m) (xs : List Int) : (stepM m xs).1.ro.outs.length ≤ m.ro.outs.length + xs.length := by
  unfold stepM
  rw [script_is h.set]
  have := go_outs (script_inv h xs)
  simpa using this
/-- One round: all replicas ready, gates that pass, time that goes by, a step. -/
def roundPre (m : Md) : Md := (opM (fillM m) (opPre (orS m.s) true)).1
def roundPost (m : Md) : Md := (opM (roundPre m) (opPost (raS m.s) true)).1
def roundTick (m : Md) : Md := tickM (roundPost m) m.s.dl
def roundM (m : Md) : Md := (stepM (roundTick m) []).1
def stageS (s : St) : Nat := if s.ph = 0 then 0 else if s.ph = 4 ∨ s.ph = 5 ∨ s.ph = 7 then 1 else if s.ph = 1 then 3 else 2
theorem full_fill {m : Md} (h : MdI m) (hp : 0 < m.s.ph) : fullO (fillM m) = true := by
  obtain ⟨ha, X⟩ := right_x h.right
  have hw : woS m.s ≠ 0 := (X.2.2.2.2.2.2.1 hp).2.1
  have hw0 : 0 ≤ woS m.s := X.2.1.2.2.2.2.2.2.1
  have hk := h.lk
  have hl := h.ll
  show fullS m.s (viewM (fillM m)) (1 - m.s.ac) = true
  unfold fullS viewM fillM woS at *
  simp only [fillL_len, fillL_cnt]
  rcases ha with e | e
  · rw [if_pos e] at hw hw0
    rw [if_neg (by omega), if_pos (by omega)]
    unfold fullX
    rw [decide_eq_true (by omega), hl]
    simp
  · rw [if_neg (by omega)] at hw hw0
    rw [if_pos (by omega)]
    unfold fullX
    rw [decide_eq_true (by omega), hk]
    simp
theorem pre_is {m : Md} (h : MdI m) (hp : m.s.ph = 2) : (opM m (opPre (orS m.s) true)).1 = { m with s := { setP m.s true with ph := 3 } } := by
  have hx := (right_x h.right).2
  have hro := hx.2.1
  have hr0 := (hx.2.2.2.2.2.2.1 (by omega)).1
  have hc : chkS m.s (opPre (orS m.s) true) m.tick = 0 := by
    unfold chkS chkX opPre
    simp only
    rw [if_neg (by decide), if_neg (by decide), if_neg (by omega), if_pos trivial, if_neg (by omega), if_neg (by omega)]
  unfold opM
  rw [if_pos hc]
  have hs : stepS m.s (recO (opPre (orS m.s) true)) = ({ setP m.s true with ph := 3 }, true) := by
    rw [(step_op h.right _).2.2.1 rfl]
    unfold step4
    rw [if_neg (fun h => by have h2 : (true : Bool) = false := h.2; cases h2)]
    exact pick_yes _ _ hp
  have e : ∀ s : St, (setP s true).w0 = s.w0 ∧ (setP s true).w1 = s.w1 := by intro s; unfold setP; split <;> exact ⟨rfl, rfl⟩
  rw [put_w h.set hs (e _).1 (e _).2]
theorem pre_no {m : Md} (hp : m.s.ph ≠ 2) (rv : Int) : (opM m (opPre rv true)).1 = m := by
  refine op_no ?_
  have hc : chkS m.s (opPre rv true) m.tick ≠ 0 := by
    unfold chkS chkX opPre
    simp only
    rw [if_neg (by decide), if_neg (by decide)]
    by_cases h1 : rv < 1 ∨ 1073741824 < rv
    · rw [if_pos h1]; decide
    · rw [if_neg h1, if_pos trivial, if_pos hp]; decide
  unfold opM
  rw [if_neg hc]
  exact hc
theorem post_no {m : Md} (hp : m.s.ph ≠ 4) (rv : Int) : (opM m (opPost rv true)).1 = m := by
  refine op_no ?_
  have hc : chkS m.s (opPost rv true) m.tick ≠ 0 := by
    unfold chkS chkX opPost
    simp only
    rw [if_neg (by decide), if_neg (by decide)]
    by_cases h1 : rv < 1 ∨ 1073741824 < rv
    · rw [if_pos h1]; decide
    · rw [if_neg h1, if_neg (by decide), if_pos trivial, if_pos hp]; decide
  unfold opM
  rw [if_neg hc]
  exact hc
theorem fill_s (m : Md) : (fillM m).s = m.s ∧ (fillM m).ro = m.ro ∧ (fillM m).tick = m.tick := ⟨rfl, rfl, rfl⟩
/-- What stands ahead of a round's step. -/
theorem round_ahead {m : Md} (h : SetlI m) (ht : m.tick + 65536 ≤ 1073741824) : SetlI (roundTick m) ∧ (roundTick m).ro = m.ro ∧ (roundTick m).tick = m.tick + m.s.dl ∧ (roundTick m).s.dl = m.s.dl ∧ (roundTick m).s.fl = m.s.fl ∧ (0 < m.s.ph → fullO (roundTick m) = true) ∧ ((roundTick m).s.ph = if m.s.ph = 2 then 3 else if m.s.ph = 4 then 5 else m.s.ph) := by
  have hf := setl_fill h
  have hdl := (right_x h.md.right).2.1
  have htk := h.md.tick
  have hadd : addI m.tick m.s.dl 1073741824 = m.tick + m.s.dl := by unfold addI; omega
  have h1 : SetlI (roundPre m) := setl_op hf _
  have h2 : SetlI (roundPost m) := setl_op h1 _
  have h3 : SetlI (roundTick m) := setl_tick h2 _
  refine ⟨h3, ?_⟩
  by_cases p2 : m.s.ph = 2
  · have e1 : roundPre m = { fillM m with s := { setP m.s true with ph := 3 } } := pre_is hf.md p2
    have e2 : roundPost m = roundPre m := post_no (by rw [e1]; show (3 : Int) ≠ 4; decide) _
    have sp : ∀ s : St, (setP s true).dl = s.dl ∧ (setP s true).fl = s.fl ∧ (setP s true).ac = s.ac ∧ (setP s true).w0 = s.w0 ∧ (setP s true).w1 = s.w1 := by intro s; unfold setP; split <;> exact ⟨rfl, rfl, rfl, rfl, rfl⟩
    have sp := sp m.s
    unfold roundTick
    rw [e2, e1]
    refine ⟨rfl, hadd, sp.1, sp.2.1, fun hp => ?_, by rw [if_pos p2]; rfl⟩
    have hfu := full_fill h.md hp
    have ef : fullO (tickM { fillM m with s := { setP m.s true with ph := 3 } } m.s.dl) = fullO (fillM m) := by
      show fullS { setP m.s true with ph := 3 } (viewM (fillM m)) (1 - (setP m.s true).ac) = fullS m.s (viewM (fillM m)) (1 - m.s.ac)
      rw [sp.2.2.1]
      unfold fullS
      show (if _ then fullX (setP m.s true).w0 _ _ else if _ then fullX (setP m.s true).w1 _ _ else false) = _
      rw [sp.2.2.2.1, sp.2.2.2.2]
    rw [ef]
    exact hfu
  · have e1 : roundPre m = fillM m := pre_no (m := fillM m) p2 _
    by_cases p4 : m.s.ph = 4
    · have e2 : roundPost m = { fillM m with s := { m.s with ph := 5 } } := by
        unfold roundPost
        rw [e1]
        have := post_is hf.md p4 true
        show (opM (fillM m) (opPost (raS (fillM m).s) true)).1 = _
        rw [this]
        rfl
      unfold roundTick
      rw [e2]
      exact ⟨rfl, hadd, rfl, rfl, fun hp => full_fill h.md hp, by rw [if_neg p2, if_pos p4]; rfl⟩
    · have e2 : roundPost m = fillM m := by
        unfold roundPost
        rw [e1]
        exact post_no (m := fillM m) p4 _
      unfold roundTick
      rw [e2]
      exact ⟨rfl, hadd, rfl, rfl, fun hp => full_fill h.md hp, by rw [if_neg p2, if_neg p4]; rfl⟩
theorem step_nil {m : Md} (h : MdI m) : stepM m [] = goM 4 m := by
  unfold stepM
  rw [script_is h.set, List.append_nil]
/-- A round brings a model nearer to its end, or uses an outcome. -/
theorem round_down {m : Md} (h : SetlI m) (ht : m.tick + 65536 ≤ 1073741824) : SetlI (roundM m) ∧ (roundM m).tick ≤ m.tick + 65536 ∧ ((roundM m).s.ph = 0 ∨ stageS (roundM m).s + (roundM m).ro.outs.length < stageS m.s + m.ro.outs.length) := by
  obtain ⟨h1, e1, e2, e3, e4, e5, e6⟩ := round_ahead h ht
  have hdl := (right_x h.md.right).2.1
  have hi := right_in h.md.right
  have hfl := h.fl
  have hroom := h1.room
  have hgo := setl_go h1
  have htick : (goM 4 (roundTick m)).1.tick = (roundTick m).tick := by
    rcases ways h1.md.set with ⟨_, e⟩ | ⟨_, _, e⟩ | ⟨_, _, _, e⟩ | ⟨_, e⟩ | ⟨_, _, _, _, e⟩ | ⟨g1, gs, gg, e⟩ <;> rw [e]
    · rfl
    · obtain ⟨hI2, _, _⟩ := com_inv h1.md g1 gg
      rcases (route_inv hI2 rfl).2 with ⟨_, e2, _⟩ | ⟨_, e2, _⟩ <;> rw [e2] <;> rfl
  unfold roundM
  rw [step_nil h1.md]
  refine ⟨hgo, by rw [htick]; omega, ?_⟩
  have hle : m.s.dl ≤ lessI (roundTick m).tick (roundTick m).s.fl := by
    rw [e2, e4]
    unfold lessI
    split <;> omega
  rw [← e3] at hle
  have ho := e1 ▸ (Nat.le_refl (roundTick m).ro.outs.length)
  rcases ways h1.md.set with ⟨g, e⟩ | ⟨g1, g2, e⟩ | ⟨g1, gs, g2, e⟩ | ⟨g1, e⟩ | ⟨g1, gs, g2, gg, e⟩ | ⟨g1, gs, gg, e⟩ <;> rw [e]
  · left
    show (roundTick m).s.ph = 0
    by_cases hp : 0 < m.s.ph
    · have hf := e5 hp
      rw [hf] at g
      rw [e6] at g ⊢
      split at g <;> rename_i q2
      · simp at g
      · split at g <;> rename_i q4
        · omega
        · simp at g; omega
    · rw [e6, if_neg (by omega), if_neg (by omega)]; omega
  · right
    show stageS { (roundTick m).s with ph := 2 } + (roundTick m).ro.outs.length < _
    rw [e1]
    have hm : m.s.ph = 1 := by
      rw [e6] at g1
      split at g1
      · omega
      · split at g1 <;> omega
    unfold stageS
    rw [if_neg (by show ¬ (2 : Int) = 0; decide), if_neg (by show ¬ ((2 : Int) = 4 ∨ (2 : Int) = 5 ∨ (2 : Int) = 7); decide), if_neg (by show ¬ (2 : Int) = 1; decide), if_neg (by omega), if_neg (by omega), if_pos hm]
    omega
  · exfalso
    by_cases hp : 0 < m.s.ph
    · rw [e5 hp] at g2; cases g2
    · rw [e6, if_neg (by omega), if_neg (by omega)] at g1; omega
  · left
    exact (blank_cells _).2.2.2.2
  · exfalso
    unfold RoomS at hroom
    omega
  · right
    have hm : stageS m.s = 2 := by
      rw [e6] at g1
      unfold stageS
      split at g1 <;> rename_i q2
      · rw [if_neg (by omega), if_neg (by omega), if_neg (by omega)]
      · split at g1 <;> rename_i q4
        · omega
        · rw [if_neg (by omega), if_neg (by omega), if_neg (by omega)]
    obtain ⟨hI2, _, _⟩ := com_inv h1.md g1 gg
    rw [hm]
    rcases (route_inv hI2 rfl).2 with ⟨_, r2, _, _, r3⟩ | ⟨_, r2, r3⟩ <;> rw [r2]
    · have r3' : (callM { roundTick m with s := comS (roundTick m).s }).ro.outs.length ≤ (roundTick m).ro.outs.length := r3
      rw [e1] at r3'
      have hst : stageS (appS (comS (roundTick m).s) (roundTick m).tick) = 1 := by
        unfold stageS
        show (if (if (roundTick m).s.ph = 3 then (4 : Int) else 7) = 0 then 0 else if (if (roundTick m).s.ph = 3 then (4 : Int) else 7) = 4 ∨ (if (roundTick m).s.ph = 3 then (4 : Int) else 7) = 5 ∨ (if (roundTick m).s.ph = 3 then (4 : Int) else 7) = 7 then 1 else _) = 1
        by_cases q : (roundTick m).s.ph = 3
        · rw [if_pos q, if_neg (by decide), if_pos (by decide)]
        · rw [if_neg q, if_neg (by decide), if_pos (by decide)]
      show stageS (appS (comS (roundTick m).s) (roundTick m).tick) + (callM { roundTick m with s := comS (roundTick m).s }).ro.outs.length < _
      omega
    · have r3' : (callM { roundTick m with s := comS (roundTick m).s }).ro.outs.length < (roundTick m).ro.outs.length := r3
      rw [e1] at r3'
      have hst : stageS (comS (roundTick m).s) = 2 := by
        unfold stageS
        show (if (roundTick m).s.ph = 0 then 0 else if (roundTick m).s.ph = 4 ∨ (roundTick m).s.ph = 5 ∨ (roundTick m).s.ph = 7 then 1 else if (roundTick m).s.ph = 1 then 3 else 2) = 2
        rw [if_neg (by omega), if_neg (by omega), if_neg (by omega)]
      show stageS (comS (roundTick m).s) + (callM { roundTick m with s := comS (roundTick m).s }).ro.outs.length < _
      omega
def roundsM : Nat → Md → Md
  | 0, m => m
  | n + 1, m => roundM (roundsM n m)
theorem rounds_inv {m : Md} (h : SetlI m) : ∀ n : Nat, m.tick + 65536 * n ≤ 1073741824 → SetlI (roundsM n m) ∧ (roundsM n m).tick ≤ m.tick + 65536 * n ∧ ((roundsM n m).s.ph = 0 ∨ stageS (roundsM n m).s + (roundsM n m).ro.outs.length + n ≤ stageS m.s + m.ro.outs.length)
  | 0, _ => ⟨h, by show m.tick ≤ _; omega, .inr (Nat.le_refl _)⟩
  | n + 1, ht => by
    obtain ⟨h1, h2, h3⟩ := rounds_inv h n (by omega)
    obtain ⟨g1, g2, g3⟩ := round_down h1 (by omega)
    refine ⟨g1, by show (roundM (roundsM n m)).tick ≤ _; omega, ?_⟩
    show (roundM (roundsM n m)).s.ph = 0 ∨ stageS (roundM (roundsM n m)).s + (roundM (roundsM n m)).ro.outs.length + (n + 1) ≤ _
    rcases g3 with g3 | g3
    · exact .inl g3
    · rcases h3 with h3 | h3
      · left
        -- stable stays so
        obtain ⟨r1, _, _, _, _, _, r6⟩ := round_ahead h1 (by omega)
        have hp : (roundTick (roundsM n m)).s.ph = 0 := by rw [r6, if_neg (by omega), if_neg (by omega), h3]
        unfold roundM
        rw [step_nil r1.md]
        rcases ways r1.md.set with ⟨g, e⟩ | ⟨q1, _, e⟩ | ⟨q1, _, _, e⟩ | ⟨q1, e⟩ | ⟨q1, _, _, _, e⟩ | ⟨q1, _, _, e⟩
        · rw [e]; exact hp
        all_goals omega
      · right; omega
theorem stage_le (s : St) : stageS s ≤ 3 := by
  unfold stageS
  split
  · omega
  · split
    · omega
    · split <;> omega
/-- Behind as many rounds it is stable, and the other slot has nothing. -/
theorem settled {m : Md} (h : SetlI m) {n : Nat} (ht : m.tick + 65536 * n ≤ 1073741824) (hn : 4 + m.ro.outs.length ≤ n) : (roundsM n m).s.ph = 0 ∧ woS (roundsM n m).s = 0 ∧ (roundsM n m).ro.slot = (roundsM n m).s.ac ∧ SetlI (roundsM n m) := by
  obtain ⟨h1, _, h3⟩ := rounds_inv h n ht
  have hs := stage_le m.s
  have hp : (roundsM n m).s.ph = 0 := by
    rcases h3 with h3 | h3
    · exact h3
    · omega
  have hx := (right_x h1.md.right).2
  exact ⟨hp, (hx.2.2.2.2.1 hp).2, slot_none h1.md (by have := hx.2.2.2.2.2.2.2.2; omega), h1⟩
end Go.Proofs.Ytchaeidmjoelnaa
