/-
  How a disk lies in memory, and what leaves it as it is.
-/
import Derived.Test.YtooikkjgcpngdaaFuse
import Derived.Test.YtooikkjgcpngdaaMath
import Derived.OwnWalk
import Derived.OneCell
import Derived.BigQuiet
namespace Go.Proofs.Ytooikkjgcpngdaa
open Go.RowKit

/-- Nothing that was there turned but blocks of P. -/
structure Kept (P : Nat → Prop) (w w' : World) : Prop where
  os : w'.os = w.os
  tape : w'.tape = w.tape
  output : w'.output = w.output
  size : w.heap.size ≤ w'.heap.size
  block : ∀ k, k < w.heap.size → ¬ P k → w'.heap[k]? = w.heap[k]?

variable {P Q : Nat → Prop} {w w' w'' : World}

theorem Kept.refl (P : Nat → Prop) (w : World) : Kept P w w := ⟨rfl, rfl, rfl, Nat.le_refl _, fun _ _ _ => rfl⟩
theorem Kept.trans (h : Kept P w w') (k : Kept Q w' w'') (hQ : ∀ j, j < w.heap.size → Q j → P j) : Kept P w w'' :=
  ⟨k.os.trans h.os, k.tape.trans h.tape, k.output.trans h.output, Nat.le_trans h.size k.size, fun j hj hp => (k.block j (Nat.lt_of_lt_of_le hj h.size) fun hq => hp (hQ j hj hq)).trans (h.block j hj hp)⟩
theorem Kept.same (h : Kept P w w') (k : Kept P w' w'') : Kept P w w'' := h.trans k fun _ _ h => h
theorem Kept.drew (h : Kept P w w') : Kept P w w'.drew := ⟨h.os, h.tape, h.output, h.size, h.block⟩
theorem Kept.drewN (h : Kept P w w') (n : Nat) : Kept P w (w'.drewN n) := ⟨h.os, h.tape, h.output, h.size, h.block⟩
theorem Kept.alloc (h : Kept P w w') (o : Obj) : Kept P w (w'.alloc o) :=
  ⟨h.os, h.tape, h.output, Nat.le_trans h.size (by simp), fun k hk hp => (Below.heap_alloc w' o k (Nat.lt_of_lt_of_le hk h.size)).trans (h.block k hk hp)⟩
theorem Kept.setCell (h : Kept P w w') {a : Addr} (ha : a.block < w.heap.size → P a.block) (u : Value) : Kept P w (w'.setCell a u) :=
  ⟨h.os, h.tape, h.output, by simpa [World.setCell] using h.size, fun k hk hp => (Below.heap_setCell w' a u k (fun e => hp (by rw [e]; exact ha (by rw [← e]; exact hk)))).trans (h.block k hk hp)⟩
theorem Kept.grown {row : Option Nat} (h : Kept P w w') (hg : w'.grownBy w'' row) (hr : ∀ k, row = some k → k < w.heap.size → P k) : Kept P w w'' :=
  ⟨hg.os.trans h.os, hg.tape.trans h.tape, hg.output.trans h.output, Nat.le_trans h.size hg.size, fun k hk hp => (hg.block k (Nat.lt_of_lt_of_le hk h.size) fun e => hp (hr k e.symm hk)).trans (h.block k hk hp)⟩
theorem Kept.only {b : Nat} (h : Kept P w w') (ho : Only b w' w'') (hb : b < w.heap.size → P b) : Kept P w w'' :=
  ⟨ho.os.trans h.os, ho.tape.trans h.tape, ho.output.trans h.output, by rw [ho.size]; exact h.size, fun k hk hp => (ho.block k (fun e => hp (by rw [e]; exact hb (by rw [← e]; exact hk)))).trans (h.block k hk hp)⟩
theorem Kept.ofBelow (h : Below w.heap.size w w') : Kept P w w' := ⟨h.os, h.tape, h.output, h.size, fun k hk _ => h.block k hk⟩
theorem Kept.below {B : Nat} (h : Kept P w w') (hP : ∀ k, P k → B ≤ k) (hB : B ≤ w.heap.size) : Below B w w' :=
  ⟨h.os, h.tape, h.output, h.size, fun k hk => h.block k (Nat.lt_of_lt_of_le hk hB) fun hp => by have := hP k hp; omega⟩

/-- P, and all that came since. -/
def grow (P : Nat → Prop) (w w' : World) : Nat → Prop := fun k => P k ∨ (w.heap.size ≤ k ∧ k < w'.heap.size)

/-! What a fuse bears. -/
def Fu.ok (u : Fu) : Bool := !(u.armed && u.left == 0)
def Fu.spent (u : Fu) : Fu := if u.ok then ⟨u.armed, if u.armed then u.left - 1 else u.left, u.blown, u.count + 1⟩ else ⟨u.armed, u.left, true, u.count⟩
def Fu.reset (u : Fu) : Fu := ⟨false, 0, false, u.count⟩
def Fu.arm (u : Fu) (n : Int) : Fu := ⟨true, max n 0, false, u.count⟩
structure Fu.Good (u : Fu) : Prop where
  left : u.armed = true → 0 ≤ u.left ∧ u.left ≤ 9223372036854775807
  blown : u.blown = true → u.armed = true ∧ u.left = 0
  count : 0 ≤ u.count
theorem Fu.Good.spent {u : Fu} (h : u.Good) : u.spent.Good := by
  obtain ⟨a, l, b, c⟩ := u
  obtain ⟨h1, h2, h3⟩ := h
  cases a <;> cases b <;> by_cases hl : l = 0 <;> simp_all [Fu.spent, Fu.ok] <;> constructor <;> simp <;> omega
theorem Fu.Good.reset {u : Fu} (h : u.Good) : u.reset.Good := ⟨fun h => (by cases h), fun h => (by cases h), h.count⟩
theorem Fu.Good.arm {u : Fu} (h : u.Good) (n : Int) (hn : n ≤ 9223372036854775807) : (u.arm n).Good := ⟨fun _ => (by simp [Fu.arm]; omega), fun h => (by cases h), h.count⟩
theorem Fu.spent_count (u : Fu) : u.count ≤ u.spent.count ∧ u.spent.count ≤ u.count + 1 := by
  unfold Fu.spent
  split <;> simp <;> omega
theorem spend_yes {u : Fu} {f : Nat} (h : Fz w f 58 u) (hg : u.Good) (hc : u.count < 1000000) (ho : u.ok = true) : Calls Try.prog 51 #[.pointer (some ⟨f, 0, none⟩)] w fun e w' => e = .returned (.bool true) ∧ Fz w' f 58 u.spent ∧ Only f w w' := by
  obtain ⟨a, l, b, c⟩ := u
  have e : (Fu.mk a l b c).spent = ⟨a, if a then l - 1 else l, b, c + 1⟩ := by simp [Fu.spent, ho]
  rw [e]
  cases a with
  | false => exact spend_free f l b c w hg.count hc h
  | true =>
    have hl : l ≠ 0 := by
      intro hl
      simp [Fu.ok, hl] at ho
    have h1 := hg.left rfl
    exact spend_some f l b c w (by simp at h1; omega) h1.2 hg.count hc h
theorem spend_nay {u : Fu} {f : Nat} (h : Fz w f 58 u) (ho : u.ok = false) : Calls Try.prog 51 #[.pointer (some ⟨f, 0, none⟩)] w fun e w' => e = .returned (.bool false) ∧ Fz w' f 58 u.spent ∧ Only f w w' := by
  obtain ⟨a, l, b, c⟩ := u
  have e : (Fu.mk a l b c).spent = ⟨a, l, true, c⟩ := by simp [Fu.spent, ho]
  rw [e]
  simp [Fu.ok] at ho
  obtain ⟨rfl, rfl⟩ := ho
  exact spend_no f b c w h

/-! Rows of strings. -/
def strs (ss : List ByteArray) : List Value := ss.map Value.string
theorem strs_len (ss : List ByteArray) : (strs ss).length = ss.length := List.length_map _
theorem strs_one (ss : List ByteArray) : ∀ u ∈ strs ss, u.oneCell' = true := by
  intro u hu
  obtain ⟨x, _, rfl⟩ := List.mem_map.1 hu
  rfl
def Row (w : World) (b : Nat) (ss : List ByteArray) : Prop := w.heap[b]? = some (.cells (strs ss).toArray 9 (0, 0))
theorem Row.cell {b : Nat} {ss : List ByteArray} (h : Row w b ss) (i : Nat) (hi : i < ss.length) : w.cell? ⟨b, i, none⟩ = some (.string (ss.getD i nil)) := by
  rw [cell_of_row w b i _ _ _ h]
  simp [strs, hi]
theorem Row.fr {b : Nat} {ss : List ByteArray} (h : Row w b ss) (i : Nat) : w.frozen? ⟨b, i, none⟩ = false := by
  unfold Row at h
  simp [World.frozen?, h]
theorem Row.set {b : Nat} {ss : List ByteArray} (h : Row w b ss) (i : Nat) (x : ByteArray) : Row (w.setCell ⟨b, i, none⟩ (.string x)) b (ss.set i x) := by
  unfold Row at h ⊢
  simp [World.setCell, Array.getElem?_modify, h, strs, List.map_set]
theorem Row.is {b : Nat} {ss : List ByteArray} (h : Row w b ss) : w.heap[b]? = some (.cells (strs ss).toArray 9 (0, 0)) := h
theorem Fz.is {b : Nat} {t : TypeId} {s : Fu} (h : Fz w b t s) : w.heap[b]? = some (.cells #[.bool s.armed, .int .i64 s.left, .bool s.blown, .int .i64 s.count] t (0, 0)) := h
theorem Row.lt {b : Nat} {ss : List ByteArray} (h : Row w b ss) : b < w.heap.size := lt_of_block h

/-! The writes that aren't flushed, cell by cell. -/
def prs (l : List (Nat × ByteArray)) : List Value := l.flatMap fun p => [.int .i64 (p.1 : Int), .string p.2]
theorem prs_len (l : List (Nat × ByteArray)) : (prs l).length = l.length * 2 := by
  induction l with
  | nil => rfl
  | cons p l ih => simp [prs] at ih ⊢; omega
theorem prs_at (l : List (Nat × ByteArray)) (k : Nat) (h : k < l.length) : (prs l)[k * 2]? = some (.int .i64 (l[k].1 : Int)) ∧ (prs l)[k * 2 + 1]? = some (.string l[k].2) := by
  induction l generalizing k with
  | nil => simp at h
  | cons p l ih =>
    cases k with
    | zero => simp [prs]
    | succ k =>
      have h' : k < l.length := by simpa using h
      have e1 : (k + 1) * 2 = k * 2 + 1 + 1 := by omega
      rw [e1]
      simpa [prs] using ih k h'
theorem prs_snoc (l : List (Nat × ByteArray)) (i : Nat) (b : ByteArray) : prs (l ++ [(i, b)]) = prs l ++ [.int .i64 (i : Int), .string b] := by simp [prs]

/-- The program's disk d, of fuse f: the sectors lie in nb, what lasts in lb, the writes are ov. All its blocks are of P. -/
structure InvP (w : World) (B : Nat) (P : Nat → Prop) (d f : Nat) (s : Dk) (fu : Fu) (nb lb : Nat) (ov : Value) : Prop where
  hd : w.heap[d]? = some (.cells #[.int .i64 (s.size : Int), .slice (some ⟨nb, 0, none⟩) s.now.length s.now.length, .slice (some ⟨lb, 0, none⟩) s.now.length s.now.length, ov, .pointer (some ⟨f, 0, none⟩)] 63 (0, 0))
  hn : Row w nb s.now
  hl : Row w lb s.last
  ho : w.ownsRow B 82 2 ov s.opn.length (prs s.opn)
  hf : Fz w f 58 fu
  ne : nb ≠ lb
  pd : P d
  pn : P nb
  pl : P lb
  pf : P f
  po : ∀ g, ov.ownBlock = some g → P g
  lt : ∀ k, P k → B ≤ k ∧ k < w.heap.size

variable {B d f nb lb : Nat} {s : Dk} {fu : Fu} {ov : Value}
theorem InvP.c0 (h : InvP w B P d f s fu nb lb ov) : w.cell? ⟨d, 0, none⟩ = some (.int .i64 (s.size : Int)) := by rw [cell_of_row w d 0 _ _ _ h.hd]; rfl
theorem InvP.c1 (h : InvP w B P d f s fu nb lb ov) : w.cell? ⟨d, 1, none⟩ = some (.slice (some ⟨nb, 0, none⟩) s.now.length s.now.length) := by rw [cell_of_row w d 1 _ _ _ h.hd]; rfl
theorem InvP.c2 (h : InvP w B P d f s fu nb lb ov) : w.cell? ⟨d, 2, none⟩ = some (.slice (some ⟨lb, 0, none⟩) s.now.length s.now.length) := by rw [cell_of_row w d 2 _ _ _ h.hd]; rfl
theorem InvP.c3 (h : InvP w B P d f s fu nb lb ov) : w.cell? ⟨d, 3, none⟩ = some ov := by rw [cell_of_row w d 3 _ _ _ h.hd]; rfl
theorem InvP.c4 (h : InvP w B P d f s fu nb lb ov) : w.cell? ⟨d, 4, none⟩ = some (.pointer (some ⟨f, 0, none⟩)) := by rw [cell_of_row w d 4 _ _ _ h.hd]; rfl
theorem InvP.fr (h : InvP w B P d f s fu nb lb ov) (i : Nat) : w.frozen? ⟨d, i, none⟩ = false := by
  have := h.hd
  simp [World.frozen?, this]

/-- Its blocks as they were: it stands. -/
theorem InvP.stays (h : InvP w B P d f s fu nb lb ov) (hs : w.heap.size ≤ w'.heap.size) (hb : ∀ k, P k → w'.heap[k]? = w.heap[k]?) : InvP w' B P d f s fu nb lb ov where
  hd := (hb d h.pd).trans h.hd
  hn := (hb nb h.pn).trans h.hn
  hl := (hb lb h.pl).trans h.hl
  ho := by
    obtain ⟨h1, h2⟩ := h.ho
    refine ⟨h1, ?_⟩
    rcases h2 with h2 | ⟨g, cap, cur, hv, hg, hh, hn, hc, hs, ht⟩
    · exact .inl h2
    · exact .inr ⟨g, cap, cur, hv, hg, (hb g (h.po g (by rw [hv]; rfl))).trans hh, hn, hc, hs, ht⟩
  hf := (hb f h.pf).trans h.hf
  ne := h.ne
  pd := h.pd
  pn := h.pn
  pl := h.pl
  pf := h.pf
  po := h.po
  lt := fun k hk => ⟨(h.lt k hk).1, Nat.lt_of_lt_of_le (h.lt k hk).2 hs⟩
theorem InvP.kept (h : InvP w B P d f s fu nb lb ov) (hk : Kept Q w w') (hq : ∀ k, P k → ¬ Q k) : InvP w' B P d f s fu nb lb ov :=
  h.stays hk.size fun k hp => hk.block k (h.lt k hp).2 (hq k hp)
theorem InvP.under (h : InvP w B P d f s fu nb lb ov) (hk : Below w.heap.size w w') : InvP w' B P d f s fu nb lb ov :=
  h.stays hk.size fun k hp => hk.block k (h.lt k hp).2
theorem InvP.alloc (h : InvP w B P d f s fu nb lb ov) (o : Obj) : InvP (w.alloc o) B P d f s fu nb lb ov :=
  h.stays (by simp) fun k hp => Below.heap_alloc w o k (h.lt k hp).2
theorem InvP.drew (h : InvP w B P d f s fu nb lb ov) : InvP w.drew B P d f s fu nb lb ov := h.stays (Nat.le_refl _) fun _ _ => rfl
theorem InvP.drewN (h : InvP w B P d f s fu nb lb ov) (n : Nat) : InvP (w.drewN n) B P d f s fu nb lb ov := h.stays (Nat.le_refl _) fun _ _ => rfl
/-- Another block of P may come. -/
theorem InvP.mono (h : InvP w B P d f s fu nb lb ov) (hP : ∀ k, P k → Q k) (hQ : ∀ k, Q k → B ≤ k ∧ k < w.heap.size) : InvP w B Q d f s fu nb lb ov :=
  ⟨h.hd, h.hn, h.hl, h.ho, h.hf, h.ne, hP _ h.pd, hP _ h.pn, hP _ h.pl, hP _ h.pf, fun g hg => hP _ (h.po g hg), hQ⟩

theorem ne_of_type {b c : Nat} {x y : Array Value} {t u : TypeId} (h : w.heap[b]? = some (.cells x t (0, 0))) (k : w.heap[c]? = some (.cells y u (0, 0))) (ht : t ≠ u) : b ≠ c := by
  rintro rfl
  rw [h] at k
  cases k
  exact ht rfl
theorem InvP.type_open (h : InvP w B P d f s fu nb lb ov) {g : Nat} (hg : ov.ownBlock = some g) : ∃ cur, w.heap[g]? = some (.cells cur 82 (0, 0)) := by
  rcases h.ho.2 with ⟨hv, _⟩ | ⟨g', cap, cur, hv, _, hh, _⟩
  · rw [hv] at hg; cases hg
  · rw [hv] at hg
    obtain rfl : g' = g := by simpa [Value.ownBlock] using hg
    exact ⟨cur, hh⟩
theorem own_other {e : TypeId} {size n : Nat} {v : Value} {xs : List Value} (h : w.ownsRow B e size v n xs) (hb : ∀ g, v.ownBlock = some g → w'.heap[g]? = w.heap[g]?) : w'.ownsRow B e size v n xs := by
  obtain ⟨h1, h2⟩ := h
  refine ⟨h1, ?_⟩
  rcases h2 with h2 | ⟨g, cap, cur, hv, hg, hh, hn, hc, hs, ht⟩
  · exact .inl h2
  · exact .inr ⟨g, cap, cur, hv, hg, (hb g (by rw [hv]; rfl)).trans hh, hn, hc, hs, ht⟩

/-- A turn of block b alone, which is not the disk's own head, nor of its writes. -/
theorem InvP.setLast (h : InvP w B P d f s fu nb lb ov) (i : Nat) (x : ByteArray) : InvP (w.setCell ⟨lb, i, none⟩ (.string x)) B P d f { s with last := s.last.set i x } fu nb lb ov where
  hd := (Below.heap_setCell w ⟨lb, i, none⟩ _ d (ne_of_type h.hd h.hl.is (by decide))).trans h.hd
  hn := (Below.heap_setCell w ⟨lb, i, none⟩ _ nb h.ne).trans h.hn
  hl := h.hl.set i x
  ho := own_other h.ho fun g hg => by
    obtain ⟨cur, hc⟩ := h.type_open hg
    exact Below.heap_setCell w ⟨lb, i, none⟩ _ g (ne_of_type hc h.hl.is (by decide))
  hf := (Below.heap_setCell w ⟨lb, i, none⟩ _ f (ne_of_type h.hf.is h.hl.is (by decide))).trans h.hf
  ne := h.ne
  pd := h.pd
  pn := h.pn
  pl := h.pl
  pf := h.pf
  po := h.po
  lt := fun k hk => by simpa [World.setCell] using h.lt k hk
theorem InvP.setNow (h : InvP w B P d f s fu nb lb ov) (i : Nat) (x : ByteArray) : InvP (w.setCell ⟨nb, i, none⟩ (.string x)) B P d f { s with now := s.now.set i x } fu nb lb ov where
  hd := by
    refine (Below.heap_setCell w ⟨nb, i, none⟩ _ d (ne_of_type h.hd h.hn.is (by decide))).trans ?_
    simpa using h.hd
  hn := h.hn.set i x
  hl := (Below.heap_setCell w ⟨nb, i, none⟩ _ lb (Ne.symm h.ne)).trans h.hl
  ho := own_other h.ho fun g hg => by
    obtain ⟨cur, hc⟩ := h.type_open hg
    exact Below.heap_setCell w ⟨nb, i, none⟩ _ g (ne_of_type hc h.hn.is (by decide))
  hf := (Below.heap_setCell w ⟨nb, i, none⟩ _ f (ne_of_type h.hf.is h.hn.is (by decide))).trans h.hf
  ne := h.ne
  pd := h.pd
  pn := h.pn
  pl := h.pl
  pf := h.pf
  po := h.po
  lt := fun k hk => by simpa [World.setCell] using h.lt k hk
/-- The writes as they are now: what ov is, is said anew. -/
theorem InvP.setOpen (h : InvP w B P d f s fu nb lb ov) (v : Value) (l : List (Nat × ByteArray)) (hv : w.ownsRow B 82 2 v l.length (prs l)) (hp : ∀ g, v.ownBlock = some g → P g) : InvP (w.setCell ⟨d, 3, none⟩ v) B P d f { s with opn := l } fu nb lb v where
  hd := by
    have := h.hd
    simp [World.setCell, Array.getElem?_modify, this]
  hn := (Below.heap_setCell w ⟨d, 3, none⟩ _ nb (ne_of_type h.hn.is h.hd (by decide))).trans h.hn
  hl := (Below.heap_setCell w ⟨d, 3, none⟩ _ lb (ne_of_type h.hl.is h.hd (by decide))).trans h.hl
  ho := own_other hv fun g hg => by
    rcases hv.2 with ⟨e, _⟩ | ⟨g', cap, cur, e, _, hh, _⟩
    · rw [e] at hg; cases hg
    · rw [e] at hg
      obtain rfl : g' = g := by simpa [Value.ownBlock] using hg
      exact Below.heap_setCell w ⟨d, 3, none⟩ _ g' (ne_of_type hh h.hd (by decide))
  hf := (Below.heap_setCell w ⟨d, 3, none⟩ _ f (ne_of_type h.hf.is h.hd (by decide))).trans h.hf
  ne := h.ne
  pd := h.pd
  pn := h.pn
  pl := h.pl
  pf := h.pf
  po := hp
  lt := fun k hk => by simpa [World.setCell] using h.lt k hk
/-- A write has come behind the others, and the disk's head tells so. -/
theorem InvP.pushed {w3 : World} (h : InvP w B P d f s fu nb lb ov) {v : Value} {l : List (Nat × ByteArray)} (hg : w.grownBy w3 ov.ownBlock) (hv : w3.ownsRow B 82 2 v l.length (prs l)) (hPQ : ∀ k, P k → Q k) (hp : ∀ g, v.ownBlock = some g → Q g)
    (hQ : ∀ k, Q k → B ≤ k ∧ k < w3.heap.size) : InvP (w3.setCell ⟨d, 3, none⟩ v) B Q d f { s with opn := l } fu nb lb v := by
  have key : ∀ {b : Nat} {x : Array Value} {t : TypeId}, w.heap[b]? = some (.cells x t (0, 0)) → t ≠ 82 → w3.heap[b]? = some (.cells x t (0, 0)) := fun {b x t} hb ht =>
    (hg.block b (lt_of_block hb) fun e => by
      obtain ⟨cur, hc⟩ := h.type_open e.symm
      exact ne_of_type hb hc ht rfl).trans hb
  have hd := key h.hd (by decide)
  have hn := key h.hn.is (by decide)
  have hl := key h.hl.is (by decide)
  have hf := key h.hf.is (by decide)
  refine ⟨?_, ?_, ?_, ?_, ?_, h.ne, hPQ _ h.pd, hPQ _ h.pn, hPQ _ h.pl, hPQ _ h.pf, hp, fun k hk => by simpa [World.setCell] using hQ k hk⟩
  · simp [World.setCell, Array.getElem?_modify, hd]
  · exact (Below.heap_setCell w3 ⟨d, 3, none⟩ _ nb (ne_of_type hn hd (by decide))).trans hn
  · exact (Below.heap_setCell w3 ⟨d, 3, none⟩ _ lb (ne_of_type hl hd (by decide))).trans hl
  · refine own_other hv fun g hg => ?_
    rcases hv.2 with ⟨e, _⟩ | ⟨g', cap, cur, e, _, hh, _⟩
    · rw [e] at hg; cases hg
    · rw [e] at hg
      obtain rfl : g' = g := by simpa [Value.ownBlock] using hg
      exact Below.heap_setCell w3 ⟨d, 3, none⟩ _ g' (ne_of_type hh hd (by decide))
  · exact (Below.heap_setCell w3 ⟨d, 3, none⟩ _ f (ne_of_type hf hd (by decide))).trans hf
theorem InvP.far {w3 : World} (h : InvP w B P d f s fu nb lb ov) (hg : w.grownBy w3 ov.ownBlock) : w3.cell? ⟨d, 3, none⟩ = some ov ∧ w3.frozen? ⟨d, 3, none⟩ = false := by
  have hb : w3.heap[d]? = w.heap[d]? := hg.block d (lt_of_block h.hd) fun e => by
    obtain ⟨cur, hc⟩ := h.type_open e.symm
    exact ne_of_type h.hd hc (by decide) rfl
  exact ⟨(World.cell?_of_block (w := w) (w' := w3) (a := ⟨d, 3, none⟩) hb).trans h.c3, (World.frozen?_of_block (w := w) (w' := w3) (a := ⟨d, 3, none⟩) hb).trans (h.fr 3)⟩
/-- The fuse has turned. -/
theorem InvP.fuse (h : InvP w B P d f s fu nb lb ov) {fu' : Fu} (hz : Fz w' f 58 fu') (ho : Only f w w') : InvP w' B P d f s fu' nb lb ov where
  hd := (ho.block d (ne_of_type h.hd h.hf.is (by decide))).trans h.hd
  hn := (ho.block nb (ne_of_type h.hn.is h.hf.is (by decide))).trans h.hn
  hl := (ho.block lb (ne_of_type h.hl.is h.hf.is (by decide))).trans h.hl
  ho := own_other h.ho fun g hg => by
    obtain ⟨cur, hc⟩ := h.type_open hg
    exact ho.block g (ne_of_type hc h.hf.is (by decide))
  hf := hz
  ne := h.ne
  pd := h.pd
  pn := h.pn
  pl := h.pl
  pf := h.pf
  po := h.po
  lt := fun k hk => by rw [ho.size]; exact h.lt k hk
/-- Some writes aren't flushed: where they lie. -/
theorem InvP.opened (h : InvP w B P d f s fu nb lb ov) (hp : 0 < s.opn.length) : ∃ g cap, ov = .slice (some ⟨g, 0, none⟩) s.opn.length cap ∧ P g := by
  rcases h.ho.2 with ⟨_, hn⟩ | ⟨g, cap, cur, hv, _⟩
  · omega
  · exact ⟨g, cap, hv, h.po g (by rw [hv]; rfl)⟩
theorem InvP.open_cells {g cap : Nat} (h : InvP w B P d f s fu nb lb (.slice (some ⟨g, 0, none⟩) s.opn.length cap)) (k : Nat) (hk : k < s.opn.length) : w.cell? ⟨g, k * 2, none⟩ = some (.int .i64 (s.opn[k].1 : Int)) ∧ w.cell? ⟨g, k * 2 + 1, none⟩ = some (.string s.opn[k].2) := by
  obtain ⟨h1, h2⟩ := prs_at s.opn k hk
  exact ⟨(h.ho.cellAt _ (by omega)).trans h1, (h.ho.cellAt _ (by omega)).trans h2⟩
end Go.Proofs.Ytooikkjgcpngdaa
