/-
  Records and their bytes: plain facts, no program.
-/
import Derived.Test.YthombepmlepgfaaDoorPut
namespace Go.Proofs.YthombepmlepgfaaDoor

/-- A record. -/
structure Rc where
  kind : Int
  rev : Int
  cnt : Int
  delay : Int
  gen : Int
  tick : Int
  pass : Bool
  phase : Int
  active : Int
  r0 : Int
  r1 : Int
  w0 : Int
  w1 : Int
  p0 : Bool
  p1 : Bool
  sdelay : Int
  sgen : Int
  sw : Int
  flip : Int
def bitI (b : Bool) : Int := if b then 1 else 0
def Rc.all (r : Rc) : List Int := [r.rev, r.cnt, r.delay, r.gen, r.tick, bitI r.pass, r.phase, r.active, r.r0, r.r1, r.w0, r.w1, bitI r.p0, bitI r.p1, r.sdelay, r.sgen, r.sw, r.flip]
def zeroR : Rc := ⟨0, 0, 0, 0, 0, 0, false, 0, 0, 0, 0, 0, 0, false, false, 0, 0, 0, 0⟩
def at_ (l : List Int) (i : Nat) : Int := l.getD i 0
def recOf (k : Int) (l : List Int) : Rc := ⟨k, at_ l 0, at_ l 1, at_ l 2, at_ l 3, at_ l 4, at_ l 5 == 1, at_ l 6, at_ l 7, at_ l 8, at_ l 9, at_ l 10, at_ l 11, at_ l 12 == 1, at_ l 13 == 1, at_ l 14, at_ l 15, at_ l 16, at_ l 17⟩
theorem recOf_all (r : Rc) : recOf r.kind r.all = r := by
  obtain ⟨k, a, b, c, d, e, f, g, h, i, j, l, m, n, o, p, q, s, t⟩ := r
  cases f <;> cases n <;> cases o <;> rfl
def zeros : List Int := [0, 0, 0, 0, 0, 0, 0, 0, 0, 0, 0, 0, 0, 0, 0, 0, 0, 0]
theorem recOf_zeros : recOf 0 zeros = zeroR := rfl

/-- The fields of each Kind. -/
def kindF (k : Int) : Option (List Nat) :=
  if k = 11 then some [6, 7, 8, 9, 10, 11, 12, 13, 14, 15, 16, 17] else if k = 10 then some [] else if k = 9 then some [5] else if k = 8 then some [3, 4] else if k = 7 then some [3] else if k = 6 then some [3] else if k = 5 then some [3] else if k = 4 then some [5] else if k = 3 then some [] else if k = 2 then some [] else if k = 1 then some [0, 1, 2] else none
theorem kind_some {k : Int} {fs : List Nat} (h : kindF k = some fs) : (k = 1 ∧ fs = [0, 1, 2]) ∨ (k = 2 ∧ fs = []) ∨ (k = 3 ∧ fs = []) ∨ (k = 4 ∧ fs = [5]) ∨ (k = 5 ∧ fs = [3]) ∨ (k = 6 ∧ fs = [3]) ∨ (k = 7 ∧ fs = [3]) ∨ (k = 8 ∧ fs = [3, 4]) ∨ (k = 9 ∧ fs = [5]) ∨ (k = 10 ∧ fs = []) ∨ (k = 11 ∧ fs = [6, 7, 8, 9, 10, 11, 12, 13, 14, 15, 16, 17]) := by
  unfold kindF at h
  iterate 11
    split at h
    · rename_i e
      subst e
      injection h with h
      subst h
      simp
  cases h
theorem kind_none {k : Int} (h : kindF k = none) : k < 1 ∨ 11 < k := by
  unfold kindF at h
  iterate 11
    split at h
    · cases h
  omega
theorem kind_pos {k : Int} {fs : List Nat} (h : kindF k = some fs) : 1 ≤ k ∧ k ≤ 11 := by
  rcases kind_some h with h | h | h | h | h | h | h | h | h | h | h <;> omega
theorem kind_lt {k : Int} {fs : List Nat} (h : kindF k = some fs) : fs.length ≤ 12 ∧ (∀ f ∈ fs, f < 18) ∧ fs.Nodup := by
  rcases kind_some h with ⟨_, rfl⟩ | ⟨_, rfl⟩ | ⟨_, rfl⟩ | ⟨_, rfl⟩ | ⟨_, rfl⟩ | ⟨_, rfl⟩ | ⟨_, rfl⟩ | ⟨_, rfl⟩ | ⟨_, rfl⟩ | ⟨_, rfl⟩ | ⟨_, rfl⟩ <;> exact ⟨by decide, by decide, by decide⟩

/-- The least and the greatest of each field. -/
def los : List Int := [1, 1, 0, 1, 0, 0, 0, 0, 0, 0, 0, 0, 0, 0, 0, 0, 0, 0]
def his : List Int := [1073741824, 32, 65536, 1048576, 1073741824, 1, 7, 1, 1073741824, 1073741824, 32, 32, 1, 1, 65536, 1048576, 2, 1073741824]
def okAt (l : List Int) (f : Nat) : Bool := decide (at_ los f ≤ at_ l f) && decide (at_ l f ≤ at_ his f)
def inside (l : List Int) (fs : List Nat) : Bool := fs.all (okAt l)
/-- All but these fields, as they are. -/
def zap (l : List Int) (fs : List Nat) : List Int := fs.foldl (fun a f => a.set f 0) l
theorem zap_len (fs : List Nat) : ∀ l, (zap l fs).length = l.length := by
  induction fs with
  | nil => intro l; rfl
  | cons f fs ih => intro l; rw [zap, List.foldl_cons]; exact (ih _).trans (by simp)
theorem zap_snoc (l : List Int) (fs : List Nat) (f : Nat) : zap l (fs ++ [f]) = (zap l fs).set f 0 := by unfold zap; rw [List.foldl_append]; rfl
theorem at_set_same (l : List Int) (f : Nat) (x : Int) (h : f < l.length) : at_ (l.set f x) f = x := by simp [at_, h]
theorem at_set_other (l : List Int) (f i : Nat) (x : Int) (h : f ≠ i) : at_ (l.set f x) i = at_ l i := by simp [at_, h]
theorem zap_at (fs : List Nat) : ∀ (l : List Int) (i : Nat), (∀ f ∈ fs, f < l.length) → at_ (zap l fs) i = if i ∈ fs then 0 else at_ l i := by
  induction fs with
  | nil => intro l i _; simp [zap]
  | cons f fs ih =>
    intro l i h
    have h1 := ih (l.set f 0) i (by intro g hg; rw [List.length_set]; exact h g (List.mem_cons_of_mem _ hg))
    rw [zap, List.foldl_cons]
    refine h1.trans ?_
    by_cases hi : i ∈ fs
    · rw [if_pos hi, if_pos (List.mem_cons_of_mem _ hi)]
    · rw [if_neg hi]
      by_cases e : f = i
      · subst e
        rw [at_set_same _ _ _ (h f (List.mem_cons_self ..)), if_pos (List.mem_cons_self ..)]
      · rw [at_set_other _ _ _ _ e, if_neg (by intro hm; rcases List.mem_cons.1 hm with hm | hm; exact e hm.symm; exact hi hm)]
theorem at_ext {a b : List Int} (h : a.length = b.length) (he : ∀ i, at_ a i = at_ b i) : a = b := by
  apply List.ext_getElem h
  intro i h1 h2
  have := he i
  simpa [at_, h1, h2] using this
theorem at_zeros (i : Nat) : at_ zeros i = 0 := by
  unfold at_ zeros
  match i with
  | 0 | 1 | 2 | 3 | 4 | 5 | 6 | 7 | 8 | 9 | 10 | 11 | 12 | 13 | 14 | 15 | 16 | 17 => rfl
  | n + 18 => simp
/-- Numbers, each at its field. -/
def fillFrom (l : List Int) (fs : List Nat) (xs : List Int) : List Int := (fs.zip xs).foldl (fun a p => a.set p.1 p.2) l
def fill (fs : List Nat) (xs : List Int) : List Int := fillFrom zeros fs xs
theorem fill_nil (l : List Int) (fs : List Nat) : fillFrom l fs [] = l := by simp [fillFrom]
theorem fill_len : ∀ (fs : List Nat) (xs l : List Int), (fillFrom l fs xs).length = l.length
  | [], xs, l => by simp [fillFrom]
  | f :: fs, [], l => by simp [fillFrom]
  | f :: fs, x :: xs, l => by
    have := fill_len fs xs (l.set f x)
    rw [List.length_set] at this
    exact this
theorem fill_other : ∀ (fs : List Nat) (xs l : List Int) (i : Nat), i ∉ fs → at_ (fillFrom l fs xs) i = at_ l i
  | [], xs, l, i, _ => by simp [fillFrom]
  | f :: fs, [], l, i, _ => by simp [fillFrom]
  | f :: fs, x :: xs, l, i, h => by
    have h1 := fill_other fs xs (l.set f x) i (fun hm => h (List.mem_cons_of_mem _ hm))
    rw [at_set_other _ _ _ _ (fun e => h (by rw [e]; exact List.mem_cons_self ..))] at h1
    exact h1
theorem fill_map : ∀ (fs : List Nat) (xs l : List Int), fs.length = xs.length → fs.Nodup → (∀ f ∈ fs, f < l.length) → fs.map (at_ (fillFrom l fs xs)) = xs
  | [], [], l, _, _, _ => rfl
  | f :: fs, x :: xs, l, hl, hd, h => by
    rw [List.nodup_cons] at hd
    have h1 := fill_map fs xs (l.set f x) (by simpa using hl) hd.2 (by intro g hg; rw [List.length_set]; exact h g (List.mem_cons_of_mem _ hg))
    have h2 := fill_other fs xs (l.set f x) f hd.1
    rw [at_set_same _ _ _ (h f (List.mem_cons_self ..))] at h2
    rw [List.map_cons]
    exact congr (congrArg List.cons h2) h1
theorem fill_snoc (fs : List Nat) (xs : List Int) (f : Nat) (x : Int) (hl : fs.length = xs.length) (l : List Int) : fillFrom l (fs ++ [f]) (xs ++ [x]) = (fillFrom l fs xs).set f x := by
  unfold fillFrom
  rw [List.zip_append hl, List.foldl_append]
  rfl
theorem all_len (r : Rc) : r.all.length = 18 := rfl
/-- A record without other fields is what its fields are. -/
theorem fill_all {r : Rc} {fs : List Nat} (hd : fs.Nodup) (hf : ∀ f ∈ fs, f < 18) (hz : zap r.all fs = zeros) : fill fs (fs.map (at_ r.all)) = r.all := by
  refine at_ext (by rw [fill, fill_len]; rfl) fun i => ?_
  by_cases hi : i ∈ fs
  · have h1 := fill_map fs (fs.map (at_ r.all)) zeros (by simp) hd (by intro f h; exact hf f h)
    exact List.map_inj_left.1 h1 i hi
  · rw [fill, fill_other _ _ _ _ hi, at_zeros]
    have h1 := zap_at fs r.all i (by intro f h; exact hf f h)
    rw [hz, at_zeros, if_neg hi] at h1
    exact h1

/-- What Put answers. -/
def rput (r : Rc) : ByteArray × Nat :=
  match kindF r.kind with
  | none => (⟨#[]⟩, 6)
  | some fs => if zap r.all fs = zeros then (if inside r.all fs then (putS (r.kind :: fs.map (at_ r.all)), 0) else (⟨#[]⟩, 1)) else (⟨#[]⟩, 4)
/-- What Get answers, of the numbers. -/
def rgot (g : Nat × List Nat) : Rc × Nat :=
  if g.1 ≠ 0 then (zeroR, g.1) else
    match g.2 with
    | [] => (zeroR, 6)
    | k :: rest =>
      match kindF (k : Int) with
      | none => (zeroR, 6)
      | some fs => if rest.length = fs.length then (if inside (fill fs (rest.map Int.ofNat)) fs then (recOf (k : Int) (fill fs (rest.map Int.ofNat)), 0) else (zeroR, 1)) else (zeroR, 4)
def rget (l : List UInt8) : Rc × Nat := rgot (gets [] l)
theorem rput_ok {r : Rc} (h : (rput r).2 = 0) : ∃ fs, kindF r.kind = some fs ∧ zap r.all fs = zeros ∧ inside r.all fs = true ∧ rput r = (putS (r.kind :: fs.map (at_ r.all)), 0) := by
  unfold rput at h ⊢
  cases hk : kindF r.kind with
  | none => rw [hk] at h; cases h
  | some fs =>
    rw [hk] at h
    simp only at h ⊢
    by_cases hz : zap r.all fs = zeros
    · rw [if_pos hz] at h ⊢
      by_cases hi : inside r.all fs = true
      · exact ⟨fs, rfl, hz, hi, by rw [if_pos hi]⟩
      · rw [if_neg hi] at h; cases h
    · rw [if_neg hz] at h; cases h
theorem rput_no {r : Rc} (h : (rput r).2 ≠ 0) : (rput r).1 = ⟨#[]⟩ := by
  unfold rput at h ⊢
  cases hk : kindF r.kind with
  | none => rfl
  | some fs =>
    rw [hk] at h
    simp only at h ⊢
    by_cases hz : zap r.all fs = zeros
    · rw [if_pos hz] at h ⊢
      by_cases hi : inside r.all fs = true
      · rw [if_pos hi] at h; exact absurd rfl h
      · rw [if_neg hi]
    · rw [if_neg hz]
theorem lo_nonneg (f : Nat) (h : f < 18) : 0 ≤ at_ los f := by
  have : ∀ f, f < 18 → 0 ≤ at_ los f := by decide
  exact this f h
theorem in_nonneg {l : List Int} {fs : List Nat} (hf : ∀ f ∈ fs, f < 18) (h : inside l fs = true) : ∀ f ∈ fs, 0 ≤ at_ l f ∧ at_ l f ≤ at_ his f := by
  intro f hm
  have h1 := List.all_eq_true.1 h f hm
  unfold okAt at h1
  simp at h1
  have := lo_nonneg f (hf f hm)
  omega
/-- The numbers of what is put. -/
theorem put_form {r : Rc} {fs : List Nat} (hk : kindF r.kind = some fs) (hi : inside r.all fs = true) :
    putOk (r.kind :: fs.map (at_ r.all)) = true ∧ putS (r.kind :: fs.map (at_ r.all)) = ⟨(encs (nats (r.kind :: fs.map (at_ r.all)))).toArray⟩ ∧ FitsAll (r.kind :: fs.map (at_ r.all)) := by
  have hl := kind_lt hk
  have hp := kind_pos hk
  have hn := in_nonneg hl.2.1 hi
  have h1 : ∀ x ∈ r.kind :: fs.map (at_ r.all), 0 ≤ x ∧ x ≤ 9223372036854775807 := by
    intro x hx
    rcases List.mem_cons.1 hx with rfl | hx
    · omega
    · obtain ⟨f, hf, rfl⟩ := List.mem_map.1 hx
      have h2 : ∀ f, f < 18 → at_ his f ≤ 1073741824 := by decide
      have := h2 f (hl.2.1 f hf)
      have := hn f hf
      omega
  have h3 : putOk (r.kind :: fs.map (at_ r.all)) = true := by
    unfold putOk
    rw [List.all_eq_true]
    intro x hx
    have := h1 x hx
    simp; omega
  refine ⟨h3, by unfold putS; rw [if_pos h3], fun x hx => ?_⟩
  have := h1 x hx
  unfold Fits; omega
theorem nats_back {xs : List Int} (h : putOk xs = true) : (nats xs).map Int.ofNat = xs := by
  unfold nats
  rw [List.map_map]
  unfold putOk at h
  rw [List.all_eq_true] at h
  conv => rhs; rw [← List.map_id xs]
  refine List.map_congr_left fun x hx => ?_
  have := h x hx
  simp at this ⊢
  omega
theorem ofNat_nats (ns : List Nat) : nats (ns.map Int.ofNat) = ns := by
  unfold nats
  rw [List.map_map]
  conv => rhs; rw [← List.map_id ns]
  exact List.map_congr_left fun x _ => by simp
/-- What is put is got. -/
theorem rget_rput {r : Rc} (h : (rput r).2 = 0) : rget (rput r).1.data.toList = (r, 0) := by
  obtain ⟨fs, hk, hz, hi, he⟩ := rput_ok h
  obtain ⟨h1, h2, h3⟩ := put_form hk hi
  have hl := kind_lt hk
  have hp := kind_pos hk
  rw [he, h2]
  show rgot (gets [] (encs (nats (r.kind :: fs.map (at_ r.all))))) = _
  rw [gets_back (nats_small h3)]
  have h4 := nats_back h1
  unfold rgot
  rw [if_neg (by simp)]
  have e1 : nats (r.kind :: fs.map (at_ r.all)) = r.kind.toNat :: nats (fs.map (at_ r.all)) := rfl
  rw [e1] at h4 ⊢
  rw [List.map_cons] at h4
  injection h4 with h5 h6
  have h7 : ((r.kind.toNat : Nat) : Int) = r.kind := h5
  simp only
  rw [h7, hk]
  simp only
  rw [if_pos (by simp [nats]), h6, fill_all hl.2.2 hl.2.1 hz, if_pos hi, recOf_all]
theorem inside_bits {l : List Int} (h : ∀ f ∈ [5, 12, 13], at_ l f = 0 ∨ at_ l f = 1) (hl : l.length = 18) (k : Int) : (recOf k l).all = l := by
  have b : ∀ x : Int, x = 0 ∨ x = 1 → bitI (x == 1) = x := by
    rintro x (rfl | rfl) <;> rfl
  have h5 := b _ (h 5 (by simp))
  have h12 := b _ (h 12 (by simp))
  have h13 := b _ (h 13 (by simp))
  match l, hl with
  | [a0, a1, a2, a3, a4, a5, a6, a7, a8, a9, a10, a11, a12, a13, a14, a15, a16, a17], _ =>
    show [a0, a1, a2, a3, a4, bitI (a5 == 1), a6, a7, a8, a9, a10, a11, bitI (a12 == 1), bitI (a13 == 1), a14, a15, a16, a17] = _
    have g5 : bitI (a5 == 1) = a5 := h5
    have g12 : bitI (a12 == 1) = a12 := h12
    have g13 : bitI (a13 == 1) = a13 := h13
    rw [g5, g12, g13]
theorem fill_zap {fs : List Nat} (xs : List Int) (hf : ∀ f ∈ fs, f < 18) : zap (fill fs xs) fs = zeros := by
  refine at_ext (by rw [zap_len, fill, fill_len]) fun i => ?_
  rw [zap_at _ _ _ (by intro f h; rw [fill, fill_len]; exact hf f h), at_zeros]
  by_cases hi : i ∈ fs
  · rw [if_pos hi]
  · rw [if_neg hi, fill, fill_other _ _ _ _ hi, at_zeros]
theorem fill_bits {fs : List Nat} {xs : List Int} (hf : ∀ f ∈ fs, f < 18) (hi : inside (fill fs xs) fs = true) : ∀ f ∈ [5, 12, 13], at_ (fill fs xs) f = 0 ∨ at_ (fill fs xs) f = 1 := by
  intro f hm
  by_cases h : f ∈ fs
  · have h1 := in_nonneg hf hi f h
    have h2 : ∀ f ∈ [5, 12, 13], at_ his f = 1 := by decide
    rw [h2 f hm] at h1
    omega
  · exact .inl (by rw [fill, fill_other _ _ _ _ h, at_zeros])
/-- What is got is put as it was. -/
theorem rput_rget {l : List UInt8} (h : (rget l).2 = 0) : rput (rget l).1 = (⟨l.toArray⟩, 0) := by
  unfold rget rgot at h ⊢
  by_cases he : (gets [] l).1 = 0
  · obtain ⟨ns, h1, h2, h3⟩ := gets_one l.length l [] (Nat.le_refl _) he
    rw [List.nil_append] at h1
    rw [he, h1] at h ⊢
    rw [if_neg (by simp)] at h ⊢
    match ns with
    | [] => cases h
    | k :: rest =>
      simp only at h ⊢
      cases hk : kindF (k : Int) with
      | none => rw [hk] at h; cases h
      | some fs =>
        rw [hk] at h
        simp only at h ⊢
        obtain ⟨hl, hf, hd⟩ := kind_lt hk
        by_cases hr : rest.length = fs.length
        · rw [if_pos hr] at h ⊢
          by_cases hi : inside (fill fs (rest.map Int.ofNat)) fs = true
          · rw [if_pos hi]
            have ha := inside_bits (fill_bits hf hi) (by rw [fill, fill_len]; rfl) (k : Int)
            have hk' : kindF (recOf (k : Int) (fill fs (rest.map Int.ofNat))).kind = some fs := hk
            unfold rput
            rw [hk']
            simp only
            have hkk : (recOf (k : Int) (fill fs (rest.map Int.ofNat))).kind = (k : Int) := rfl
            have hmm : fs.map (at_ (fill fs (rest.map Int.ofNat))) = rest.map Int.ofNat := fill_map fs _ zeros (by simp [hr]) hd (by intro f h; exact hf f h)
            rw [ha, if_pos (fill_zap _ hf), if_pos hi, hkk, hmm]
            have e1 : ((k : Int) :: rest.map Int.ofNat) = (k :: rest).map Int.ofNat := rfl
            rw [e1]
            have hok : putOk ((k :: rest).map Int.ofNat) = true := by
              unfold putOk
              rw [List.all_eq_true]
              intro x hx
              obtain ⟨n, _, rfl⟩ := List.mem_map.1 hx
              simp
            unfold putS
            rw [if_pos hok, ofNat_nats, h2]
          · rw [if_neg hi] at h; cases h
        · rw [if_neg hr] at h; cases h
  · rw [if_pos he] at h
    exact absurd h he
theorem rget_no {l : List UInt8} (h : (rget l).2 ≠ 0) : (rget l).1 = zeroR := by
  unfold rget rgot at h ⊢
  split at h
  · rename_i he; rw [if_pos he]
  · rename_i he
    rw [if_neg he]
    split
    · rfl
    · rename_i k rest hg
      rw [hg] at h
      simp only at h ⊢
      split
      · rfl
      · rename_i fs hk
        rw [hk] at h
        simp only at h
        split
        · rename_i hr
          rw [if_pos hr] at h
          split
          · rename_i hi
            rw [if_pos hi] at h
            exact absurd rfl h
          · rfl
        · rfl
end Go.Proofs.YthombepmlepgfaaDoor
