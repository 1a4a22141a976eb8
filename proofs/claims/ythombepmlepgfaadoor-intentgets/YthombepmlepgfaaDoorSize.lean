/-
  How many bytes a record has; what is cut off is none; what is got fits: plain facts, no program.
-/
import Derived.Test.YthombepmlepgfaaDoorEqs
namespace Go.Proofs.YthombepmlepgfaaDoor

/-- How many bytes each field has at most. -/
def bl : List Nat := [5, 1, 3, 3, 5, 1, 1, 1, 5, 5, 1, 1, 1, 1, 3, 3, 1, 5]
theorem bl_ok : ∀ f, f < 18 → at_ his f < 128 ^ (bl.getD f 0) ∧ 0 < bl.getD f 0 := by decide
theorem enc_at {x : Int} {f : Nat} (hf : f < 18) (hx : 0 ≤ x) (h : x ≤ at_ his f) : (enc x.toNat).length ≤ bl.getD f 0 := by
  obtain ⟨h1, h2⟩ := bl_ok f hf
  obtain ⟨m, hm⟩ : ∃ m, bl.getD f 0 = m + 1 := ⟨bl.getD f 0 - 1, by omega⟩
  rw [hm] at h1 ⊢
  refine enc_len m _ ?_
  have h3 : ((x.toNat : Nat) : Int) < ((128 ^ (m + 1) : Nat) : Int) := by
    rw [Int.toNat_of_nonneg hx]
    refine Int.lt_of_le_of_lt h ?_
    have : ((128 ^ (m + 1) : Nat) : Int) = (128 : Int) ^ (m + 1) := by simp
    rw [this]
    exact h1
  omega
theorem encs_sum (l : List Int) : ∀ fs : List Nat, (∀ f ∈ fs, f < 18) → (∀ f ∈ fs, 0 ≤ at_ l f ∧ at_ l f ≤ at_ his f) → (encs (nats (fs.map (at_ l)))).length ≤ (fs.map (bl.getD · 0)).sum
  | [], _, _ => by simp [nats, encs]
  | f :: fs, hf, h => by
    have h1 := encs_sum l fs (fun g hg => hf g (List.mem_cons_of_mem _ hg)) (fun g hg => h g (List.mem_cons_of_mem _ hg))
    obtain ⟨h2, h3⟩ := h f (List.mem_cons_self ..)
    have h4 := enc_at (hf f (List.mem_cons_self ..)) h2 h3
    have e : nats ((f :: fs).map (at_ l)) = (at_ l f).toNat :: nats (fs.map (at_ l)) := rfl
    rw [e, encs_cons, List.length_append, List.map_cons, List.sum_cons]
    omega
theorem kind_sum {k : Int} {fs : List Nat} (h : kindF k = some fs) : (fs.map (bl.getD · 0)).sum ≤ 28 := by
  rcases kind_some h with ⟨_, rfl⟩ | ⟨_, rfl⟩ | ⟨_, rfl⟩ | ⟨_, rfl⟩ | ⟨_, rfl⟩ | ⟨_, rfl⟩ | ⟨_, rfl⟩ | ⟨_, rfl⟩ | ⟨_, rfl⟩ | ⟨_, rfl⟩ | ⟨_, rfl⟩ <;> decide
/-- A record's bytes: its Kind first, at most 29 in all. -/
theorem rput_form {r : Rc} (h : (rput r).2 = 0) : ∃ (k : Nat) (ns : List Nat) (fs : List Nat), r.kind = (k : Int) ∧ 1 ≤ k ∧ k ≤ 11 ∧ kindF r.kind = some fs ∧ ns.length = fs.length ∧ Small (k :: ns) ∧ (rput r).1.data.toList = encs (k :: ns) ∧ (rput r).1.data.toList = UInt8.ofNat k :: encs ns ∧ (rput r).1.size ≤ 29 := by
  obtain ⟨fs, hk, hz, hi, he⟩ := rput_ok h
  obtain ⟨h1, h2, h3⟩ := put_form hk hi
  have hp := kind_pos hk
  have hl := kind_lt hk
  have hs := encs_sum r.all fs hl.2.1 (in_nonneg hl.2.1 hi)
  have hk2 := kind_sum hk
  have e1 : nats (r.kind :: fs.map (at_ r.all)) = r.kind.toNat :: nats (fs.map (at_ r.all)) := rfl
  have e2 : (rput r).1.data.toList = encs (r.kind.toNat :: nats (fs.map (at_ r.all))) := by rw [he, h2, ← e1]
  have e3 : encs (r.kind.toNat :: nats (fs.map (at_ r.all))) = UInt8.ofNat r.kind.toNat :: encs (nats (fs.map (at_ r.all))) := by
    rw [encs_cons, enc_low (by omega)]; rfl
  refine ⟨r.kind.toNat, nats (fs.map (at_ r.all)), fs, by omega, by omega, by omega, hk, by simp [nats], ?_, e2, by rw [e2, e3], ?_⟩
  · rw [← e1]; exact nats_small h3
  · have e4 : (rput r).1.size = (rput r).1.data.toList.length := by simp
    rw [e4, e2, e3, List.length_cons]
    omega
/-- What of a record's bytes is cut off is none. -/
theorem cut_none {r : Rc} (h : (rput r).2 = 0) (n : Nat) (hn : n < (rput r).1.size) : (rget ((rput r).1.data.toList.take n)).2 ≠ 0 := by
  intro h0
  obtain ⟨k, ns, fs, hk, hk1, hk2, hkf, hnl, hsm, e1, e2, _⟩ := rput_form h
  obtain ⟨t, ht⟩ : ∃ t, t = (rput r).1.data.toList.take n := ⟨_, rfl⟩
  have hsz : (rput r).1.size = (encs (k :: ns)).length := by rw [← e1]; simp
  rw [← ht] at h0
  obtain ⟨k', ns', fs', hk', _, hk2', hkf', hnl', hsm', e1', e2', _⟩ := rput_form (r := (rget t).1) (by rw [rput_rget h0])
  rw [rput_rget h0] at e1' e2'
  have e1'' : t = encs (k' :: ns') := e1'
  have e2'' : t = UInt8.ofNat k' :: encs ns' := e2'
  have hkk : k' = k := by
    have h1 : t[0]? = some (UInt8.ofNat k') := by rw [e2'']; rfl
    have h2 : t[0]? = some (UInt8.ofNat k) := by
      rw [ht, e2]
      cases n with
      | zero => rw [ht] at e2''; simp at e2''
      | succ n => simp
    rw [h1] at h2
    have h3 := congrArg UInt8.toNat (Option.some.inj h2)
    rw [byte_low (by omega), byte_low (by omega)] at h3
    exact h3
  subst hkk
  have hff : fs' = fs := by rw [hk', ← hk, hkf] at hkf'; exact (Option.some.inj hkf').symm
  subst hff
  have hd : encs (k' :: ns) = encs (k' :: ns') ++ (encs (k' :: ns)).drop n := by
    rw [← e1'', ht, e1, List.take_append_drop]
  have hg := gets_back hsm
  rw [hd, gets_encs _ _ hsm'] at hg
  have hlt : 0 < ((encs (k' :: ns)).drop n).length := by rw [List.length_drop]; omega
  obtain ⟨ms, g1, g2, _⟩ := gets_one ((encs (k' :: ns)).drop n).length ((encs (k' :: ns)).drop n) ([] ++ (k' :: ns')) (Nat.le_refl _) (by rw [hg])
  rw [hg] at g1
  have hlen := congrArg List.length g1
  simp only [List.length_append, List.length_cons, List.length_nil] at hlen
  have : ms = [] := List.eq_nil_of_length_eq_zero (by omega)
  subst this
  rw [← g2] at hlt
  simp [encs] at hlt
/-- What is told of wrong bytes is what their numbers tell. -/
theorem rget_err {l : List UInt8} (h : (gets [] l).1 ≠ 0) : (rget l).2 = (gets [] l).1 := by
  unfold rget rgot
  rw [if_pos h]
theorem fits_at {l : List Int} (h : FitsAll l) (i : Nat) : Fits (at_ l i) := by
  unfold at_
  rw [List.getD_eq_getElem?_getD]
  rcases Nat.lt_or_ge i l.length with hi | hi
  · rw [List.getElem?_eq_getElem hi]; exact h _ (List.getElem_mem hi)
  · rw [List.getElem?_eq_none hi]; unfold Fits; simp
theorem fits_recOf {k : Int} {l : List Int} (hk : Fits k) (h : FitsAll l) : FitsR (recOf k l) :=
  ⟨hk, fits_at h _, fits_at h _, fits_at h _, fits_at h _, fits_at h _, fits_at h _, fits_at h _, fits_at h _, fits_at h _, fits_at h _, fits_at h _, fits_at h _, fits_at h _, fits_at h _, fits_at h _⟩
theorem fits_fill : ∀ (fs : List Nat) (xs l : List Int), FitsAll l → FitsAll xs → FitsAll (fillFrom l fs xs)
  | [], xs, l, hl, _ => by simpa [fillFrom] using hl
  | f :: fs, [], l, hl, _ => by simpa [fillFrom] using hl
  | f :: fs, x :: xs, l, hl, hx => by
    refine fits_fill fs xs (l.set f x) (fun y hy => ?_) (fun y hy => hx y (List.mem_cons_of_mem _ hy))
    rcases List.mem_or_eq_of_mem_set hy with hy | rfl
    · exact hl y hy
    · exact hx _ (List.mem_cons_self ..)
theorem fits_zeros : FitsAll zeros := by
  intro x hx
  unfold Fits
  simp [zeros] at hx
  omega
theorem fits_zero : FitsR zeroR := by rw [← recOf_zeros]; exact fits_recOf (by unfold Fits; simp) fits_zeros
theorem fits_small {ns : List Nat} (h : Small ns) : FitsAll (ns.map Int.ofNat) := by
  intro x hx
  obtain ⟨n, hn, rfl⟩ := List.mem_map.1 hx
  have := h n hn
  unfold Fits
  simp
  omega
/-- What is got fits. -/
theorem fits_rget (l : List UInt8) : FitsR (rget l).1 := by
  unfold rget rgot
  by_cases he : (gets [] l).1 = 0
  · obtain ⟨ns, h1, _, h3⟩ := gets_one l.length l [] (Nat.le_refl _) he
    rw [List.nil_append] at h1
    rw [he, h1]
    rw [if_neg (by simp)]
    match ns, h3 with
    | [], _ => exact fits_zero
    | k :: rest, h3 =>
      simp only
      split
      · exact fits_zero
      · split
        · split
          · have h4 := fits_small h3
            refine fits_recOf (h4 _ (List.mem_cons_self ..)) (fits_fill _ _ _ fits_zeros (fun x hx => h4 x (List.mem_cons_of_mem _ hx)))
          · exact fits_zero
        · exact fits_zero
  · rw [if_pos he]; exact fits_zero
/-- Two records have one text just if they are the same. -/
theorem rput_inj {a b : Rc} (ha : (rput a).2 = 0) (hb : (rput b).2 = 0) : (rput a).1 = (rput b).1 ↔ a = b := by
  constructor
  · intro h
    have h1 := rget_rput ha
    rw [h, rget_rput hb] at h1
    exact (Prod.mk.inj h1).1.symm
  · intro h; rw [h]
end Go.Proofs.YthombepmlepgfaaDoor
