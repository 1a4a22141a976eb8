/-
  Lists of errors that New made of a list of numbers, at one place: the first that is one has the first number that isn't 0.
-/
import Derived.Test.YtfpbilhangdccaaDoorOpen
namespace Go.Proofs.YtfpbilhangdccaaDoor
open Go.RowKit

/-- The first number that isn't 0; 0 of none. -/
def firstNZ : List Int → Int
  | [] => 0
  | z :: r => if z = 0 then firstNZ r else z
theorem firstNZ_snoc (l : List Int) (z : Int) : firstNZ (l ++ [z]) = if firstNZ l = 0 then z else firstNZ l := by
  induction l with
  | nil => by_cases h : z = 0 <;> simp [firstNZ, h]
  | cons y r ih => by_cases h : y = 0 <;> simp [firstNZ, h, ih]

/-- What New gives of a number. -/
def ErrOf (w : World) (s : ByteArray) (z : Int) (v : Value) : Prop := (z = 0 ∧ v = .nilIface) ∨ (z ≠ 0 ∧ ∃ o, Chn w o z [s] v)
theorem ErrOf.under {w w' : World} {s : ByteArray} {z : Int} {v : Value} (h : ErrOf w s z v) (hb : Below w.heap.size w w') : ErrOf w' s z v := by
  rcases h with h | ⟨hz, o, h⟩
  · exact .inl h
  · exact .inr ⟨hz, o, h.under hb⟩
theorem ErrOf.grown {w w' : World} {s : ByteArray} {z : Int} {v : Value} {row : Option Nat} (h : ErrOf w s z v) (hg : w.grownBy w' row) (hr : ∀ g : Nat, row = some g → ∃ (cs : Array Value) (t : TypeId), w.heap[g]? = some (.cells cs t (0, 0)) ∧ t ≠ 45 ∧ t ≠ 49) : ErrOf w' s z v := by
  rcases h with h | ⟨hz, o, h⟩
  · exact .inl h
  · exact .inr ⟨hz, o, h.grown hg hr⟩
theorem ErrOf.form {w : World} {s : ByteArray} {z : Int} {v : Value} (h : ErrOf w s z v) : v = .nilIface ∨ ∃ T p, v = .iface T (.pointer (some p)) := by
  rcases h with ⟨_, h⟩ | ⟨_, o, h⟩
  · exact .inl h
  · obtain ⟨T, p, hv, _⟩ := h.form
    exact .inr ⟨T, p, hv⟩
theorem ErrOf.one {w : World} {s : ByteArray} {z : Int} {v : Value} (h : ErrOf w s z v) : ∀ u ∈ [v], u.oneCell' = true := by
  intro u hu
  obtain rfl := List.mem_singleton.1 hu
  rcases h.form with rfl | ⟨T, p, rfl⟩ <;> rfl

/-- What New gives of each one of some numbers. -/
inductive ErrsOf (w : World) (s : ByteArray) : List Int → List Value → Prop
  | nil : ErrsOf w s [] []
  | cons {z : Int} {v : Value} {zs : List Int} {vs : List Value} (h : ErrOf w s z v) (r : ErrsOf w s zs vs) : ErrsOf w s (z :: zs) (v :: vs)
theorem ErrsOf.len {w : World} {s : ByteArray} {zs : List Int} {vs : List Value} (h : ErrsOf w s zs vs) : vs.length = zs.length := by
  induction h with
  | nil => rfl
  | cons _ _ ih => simp [ih]
theorem ErrsOf.under {w w' : World} {s : ByteArray} {zs : List Int} {vs : List Value} (h : ErrsOf w s zs vs) (hb : Below w.heap.size w w') : ErrsOf w' s zs vs := by
  induction h with
  | nil => exact .nil
  | cons h _ ih => exact .cons (h.under hb) ih
theorem ErrsOf.grown {w w' : World} {s : ByteArray} {zs : List Int} {vs : List Value} {row : Option Nat} (h : ErrsOf w s zs vs) (hg : w.grownBy w' row) (hr : ∀ g : Nat, row = some g → ∃ (cs : Array Value) (t : TypeId), w.heap[g]? = some (.cells cs t (0, 0)) ∧ t ≠ 45 ∧ t ≠ 49) : ErrsOf w' s zs vs := by
  induction h with
  | nil => exact .nil
  | cons h _ ih => exact .cons (h.grown hg hr) ih
theorem ErrsOf.snoc {w : World} {s : ByteArray} {zs : List Int} {vs : List Value} {z : Int} {v : Value} (h : ErrsOf w s zs vs) (h1 : ErrOf w s z v) : ErrsOf w s (zs ++ [z]) (vs ++ [v]) := by
  induction h with
  | nil => exact .cons h1 .nil
  | cons h _ ih => exact .cons h ih
theorem ErrsOf.all {w : World} {s : ByteArray} {zs : List Int} {vs : List Value} (h : ErrsOf w s zs vs) : AllErr vs := by
  induction h with
  | nil => exact fun x hx => by cases hx
  | cons h _ ih =>
    intro x hx
    rcases List.mem_cons.1 hx with rfl | hx
    · exact h.form
    · exact ih x hx
theorem ErrsOf.first {w : World} {s : ByteArray} {zs : List Int} {vs : List Value} (h : ErrsOf w s zs vs) : ErrOf w s (firstNZ zs) (firstErr vs) := by
  induction h with
  | nil => exact .inl ⟨rfl, rfl⟩
  | @cons z v zs vs h _ ih =>
    rcases h with ⟨rfl, rfl⟩ | ⟨hz, o, h⟩
    · simpa [firstNZ, firstErr] using ih
    · obtain ⟨T, p, rfl, _⟩ := h.form
      rw [show firstNZ (z :: zs) = z by simp [firstNZ, hz]]
      exact .inr ⟨hz, o, h⟩

set_option maxHeartbeats 400000 in
/-- New, of whatever number. -/
theorem new_any (z : Int) (s : ByteArray) (w : World) : Calls Tryd.prog 9 #[.int .i64 z, .string s] w fun e w' => ∃ v, e = .returned v ∧ ErrOf w' s z v ∧ Below w.heap.size w w' := by
  by_cases h0 : z = 0
  · subst h0
    refine (new_ok s w).mono ?_
    rintro e w' ⟨rfl, rfl⟩
    exact ⟨_, rfl, .inl ⟨rfl, rfl⟩, Below.refl _ _⟩
  · refine (new_err z s w (by simpa using h0)).mono ?_
    rintro e w' ⟨o, v, rfl, hc, hb⟩
    exact ⟨v, rfl, .inr ⟨h0, o, hc⟩, hb⟩
theorem own_len {w : World} {B : Nat} {e : TypeId} {v : Value} {xs : List Value} {u : Value} (h : w.ownsRow B e 1 v (xs.length + 1) (xs ++ [u])) : w.ownsRow B e 1 v (xs ++ [u]).length (xs ++ [u]) := by
  rw [List.length_append]
  exact h
theorem ints_at (xs : List Int) (k : Nat) (h : k < xs.length) : (ints xs)[k]? = some (.int .i64 xs[k]) := by simp [ints, h]
theorem ints_len (xs : List Int) : (ints xs).length = xs.length := by simp [ints]
theorem take_ints (xs : List Int) (k : Nat) (h : k < xs.length) : xs.take (k + 1) = xs.take k ++ [xs[k]] := by rw [List.take_succ_eq_append_getElem h]

theorem join_is (xs : List Value) (r va : Value) (w : World) (hl : xs.length ≤ 1000) (ha : Vals w va xs) (hx : AllErr xs) (hr : firstErr xs = r) :
    Calls Tryd.prog 16 #[va] w fun e w' => e = .returned r ∧ w = w' := by
  subst hr
  exact join_any xs va w hl ha hx

theorem code_any (s : ByteArray) (z : Int) (v : Value) (w : World) (hg : Gl w) (h : ErrOf w s z v) :
    Calls Tryd.prog 11 #[v] w fun e w' => e = .returned (.int .i64 z) ∧ Below w.heap.size w w' := by
  rcases h with ⟨rfl, rfl⟩ | ⟨_, o, h⟩
  · refine (code_nil w).mono ?_
    rintro e w' ⟨rfl, rfl⟩
    exact ⟨rfl, Below.refl _ _⟩
  · exact code_err o z _ v w hg h

theorem Vals.take {w : World} {b off c : Nat} {xs : List Value} (h : Vals w (.slice (some ⟨b, off, none⟩) xs.length c) xs) (k : Nat) (hk : k ≤ xs.length) (hn : 0 < xs.length) : Vals w (.slice (some ⟨b, off, none⟩) k c) (xs.take k) := by
  obtain ⟨b', off', c', hv, hc, hb, hx⟩ := h.full hn
  have e1 : some (⟨b, off, none⟩ : Addr) = some ⟨b', off', none⟩ := by injection hv
  have e2 : c = c' := by injection hv
  injection e1 with e1
  injection e1 with e3 e4
  subst e2 e3 e4
  exact .inr ⟨b, off, c, by rw [List.length_take, Nat.min_eq_left hk], by rw [List.length_take]; omega, hb, fun i u hu => hx i u (by
    rw [List.getElem?_take] at hu
    split at hu
    · exact hu
    · cases hu)⟩
theorem Vals.drop {w : World} {b off c : Nat} {xs : List Value} (h : Vals w (.slice (some ⟨b, off, none⟩) xs.length c) xs) (k : Nat) (hk : k ≤ xs.length) (hn : 0 < xs.length) : Vals w (.slice (some ⟨b, off + k, none⟩) (xs.length - k) (c - k)) (xs.drop k) := by
  obtain ⟨b', off', c', hv, hc, hb, hx⟩ := h.full hn
  have e1 : some (⟨b, off, none⟩ : Addr) = some ⟨b', off', none⟩ := by injection hv
  have e2 : c = c' := by injection hv
  injection e1 with e1
  injection e1 with e3 e4
  subst e2 e3 e4
  exact .inr ⟨b, off + k, c - k, by rw [List.length_drop], by rw [List.length_drop]; omega, hb, fun i u hu => by
    rw [Nat.add_assoc]
    exact hx (k + i) u (by rwa [List.getElem?_drop] at hu)⟩
theorem AllErr.take {xs : List Value} (h : AllErr xs) (k : Nat) : AllErr (xs.take k) := fun x hx => h x (List.mem_of_mem_take hx)
theorem AllErr.drop {xs : List Value} (h : AllErr xs) (k : Nat) : AllErr (xs.drop k) := fun x hx => h x (List.mem_of_mem_drop hx)
theorem AllErr.first {xs : List Value} (h : AllErr xs) : firstErr xs = .nilIface ∨ ∃ T p, firstErr xs = .iface T (.pointer (some p)) := by
  induction xs with
  | nil => exact .inl rfl
  | cons x r ih =>
    rcases h x (List.mem_cons_self ..) with rfl | ⟨T, p, rfl⟩
    · exact ih fun y hy => h y (List.mem_cons_of_mem _ hy)
    · exact .inr ⟨T, p, rfl⟩
theorem firstErr_two {xs ys : List Value} (h : AllErr xs) : firstErr [firstErr xs, firstErr ys] = firstErr (xs ++ ys) := by
  induction xs with
  | nil => show firstErr [firstErr ys] = firstErr ys; cases firstErr ys <;> rfl
  | cons x r ih =>
    rcases h x (List.mem_cons_self ..) with rfl | ⟨T, p, rfl⟩
    · exact ih fun y hy => h y (List.mem_cons_of_mem _ hy)
    · rfl
theorem allErr_two {a b : Value} (ha : a = .nilIface ∨ ∃ T p, a = .iface T (.pointer (some p))) (hb : b = .nilIface ∨ ∃ T p, b = .iface T (.pointer (some p))) : AllErr [a, b] := by
  intro x hx
  simp at hx
  rcases hx with rfl | rfl
  · exact ha
  · exact hb
end Go.Proofs.YtfpbilhangdccaaDoor
