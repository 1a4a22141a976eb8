/-
  The map of phases that a law makes.
-/
import Derived.Test.YtoeelglmdnhknaaAwak
import Derived.Test.YtoeelglmdnhknaaLawB
namespace Go.Proofs.Ytoeelglmdnhknaa
open Go.RowKit

/-- A slice of the call's own that has these numbers, behind block m. -/
def Lst (m : Nat) (W : World) (v : Value) (xs : List Int) : Prop := ∃ b, v = .slice (some ⟨b, 0, none⟩) xs.length xs.length ∧ m < b ∧ Rw W b (ints xs).toArray 3
structure TabL (m : Nat) (W : World) (T : Int → Option (List Int)) (n : Nat) : Prop where
  own : ∃ D, W.ownsMap Try.prog 3 heldR m n D ∧ ∀ k xs, T k = some xs → ∃ v, D.atKey (key k) (.held (.slice none 0 0)) = .held v ∧ Lst m W v xs
theorem TabL.made (w : World) : TabL w.heap.size (w.alloc (.map #[] 0)) (fun _ => none) 0 :=
  ⟨⟨_, World.ownsMap_made w _ _ _, fun k xs h => by cases h⟩⟩
theorem TabL.store {m n : Nat} {W : World} {T : Int → Option (List Int)} (h : TabL m W T n) (k0 : Int) (xs : List Int) (hk : Fits k0) (hn : n < 1000) :
    ∃ W', (Instr.mapUpdate 41 (.map (some m)) (.int .i64 k0) (.slice (some ⟨W.heap.size, 0, none⟩) xs.length xs.length)).run Try.prog (W.alloc (.cells (ints xs).toArray 3)) = .ok () W' ∧ TabL m W' (fun k => if k = k0 then some xs else T k) (n + 1) ∧ Below m W W' := by
  obtain ⟨D, ho, hs⟩ := h.own
  have hlt := ho.lt
  have ba := (Below.refl W.heap.size W).alloc (Nat.le_refl _) (.cells (ints xs).toArray 3)
  obtain ⟨W', hrun, ho', hg⟩ := (ho.alloc (.cells (ints xs).toArray 3)).update key_keyed Try.underlying41 (by unfold maxLen; omega) (key_of hk) (d := .held (.slice (some ⟨W.heap.size, 0, none⟩) xs.length xs.length)) (ps := []) rfl
  have hL : ∀ {v ys}, Lst m (W.alloc (.cells (ints xs).toArray 3)) v ys → Lst m W' v ys := fun ⟨b, h1, h2, h3⟩ => ⟨b, h1, h2, (hg.block b h3.lt (by intro e; injection e with e; omega)).trans h3⟩
  refine ⟨W', hrun, ⟨⟨_, ho', fun k ys hy => ?_⟩⟩, below_grown' (ba.mono (Nat.le_of_lt hlt)) hg (Nat.le_refl _) (Nat.le_of_lt hlt)⟩
  by_cases e : k = k0
  · subst e
    obtain rfl : xs = ys := by simpa using hy
    exact ⟨_, Maps.atKey_put_same ho.isMap (key_lit _) _ _, hL ⟨_, rfl, hlt, Rw.new W _ 3⟩⟩
  · rw [if_neg e] at hy
    obtain ⟨v, h1, b, h2, h3, h4⟩ := hs k ys hy
    exact ⟨v, by rw [Maps.atKey_put_other (key_inj e)]; exact h1, hL ⟨b, h2, h3, h4.under ba h4.lt⟩⟩
theorem zero40 (W : World) : (zeroValue 40).run Try.prog W = .ok (.slice none 0 0) W := by
  have := Try.underlying40
  go_simp
theorem TabL.look {m n : Nat} {W : World} {T : Int → Option (List Int)} (h : TabL m W T n) (k : Int) (hk : Fits k) (xs : List Int) (hx : T k = some xs) :
    ∃ v, (Instr.lookup 41 (.map (some m)) (.int .i64 k) false).run Try.prog W = .ok v W ∧ Lst m W v xs := by
  obtain ⟨D, ho, hs⟩ := h.own
  obtain ⟨v, ps, hrun, hv⟩ := ho.lookup key_keyed Try.underlying41 (zero40 W) (zd := .held (.slice none 0 0)) (zp := []) rfl (key_of hk)
  obtain ⟨u, h4, h5⟩ := hs k xs hx
  have hv' : DataW.held v = D.atKey (key k) (.held (.slice none 0 0)) := by
    unfold heldR at hv
    exact (Prod.mk.inj (Option.some.inj hv)).1
  rw [h4] at hv'
  injection hv' with e
  subst e
  exact ⟨_, hrun, h5⟩
def phT (k : Int) : Option (List Int) :=
  if k = 7 then some [0] else if k = 6 then some [6, 7] else if k = 5 then some [0, 6] else if k = 4 then some [5, 6] else if k = 3 then some [0, 3, 4] else if k = 2 then some [0, 1, 3] else if k = 1 then some [0, 1, 2] else if k = 0 then some [1] else none
theorem phT_next {p q : Int} (h : nextP p q) : ∃ xs, phT p = some xs ∧ q ∈ xs ∧ xs.length ≤ 3 := by
  unfold nextP at h
  rcases h with ⟨rfl, h⟩ | ⟨rfl, h⟩ | ⟨rfl, h⟩ | ⟨rfl, h⟩ | ⟨rfl, h⟩ | ⟨rfl, h⟩ | ⟨rfl, h⟩ | ⟨rfl, h⟩
  · exact ⟨[1], by decide, by simp; omega, by decide⟩
  · exact ⟨[0, 1, 2], by decide, by simp; omega, by decide⟩
  · exact ⟨[0, 1, 3], by decide, by simp; omega, by decide⟩
  · exact ⟨[0, 3, 4], by decide, by simp; omega, by decide⟩
  · exact ⟨[5, 6], by decide, by simp; omega, by decide⟩
  · exact ⟨[0, 6], by decide, by simp; omega, by decide⟩
  · exact ⟨[6, 7], by decide, by simp; omega, by decide⟩
  · exact ⟨[0], by decide, by simp; omega, by decide⟩
end Go.Proofs.Ytoeelglmdnhknaa
