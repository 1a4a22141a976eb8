/-
  Plain facts of a disk, without the program: what a write, a flush and a crash make of its sectors.
-/
import Derived.Lib.Hide
namespace Go.Proofs.Ytooikkjgcpngdaa

/-- A disk: a sector's bytes, the sectors as they were written last, as they last, and the writes that aren't flushed. -/
structure Dk where
  size : Nat
  now : List ByteArray
  last : List ByteArray
  opn : List (Nat × ByteArray)

structure Dk.Good (s : Dk) : Prop where
  len : s.last.length = s.now.length
  nows : ∀ x ∈ s.now, x.size = s.size
  lasts : ∀ x ∈ s.last, x.size = s.size
  opns : ∀ p ∈ s.opn, p.1 < s.now.length ∧ p.2.size = s.size
  agree : ∀ j, (∀ p ∈ s.opn, p.1 ≠ j) → s.now[j]? = s.last[j]?
  sz : s.size ≤ 1024
  n1 : s.now.length ≤ 1024
  n0 : 0 < s.now.length

def Dk.write (s : Dk) (i : Nat) (b : ByteArray) : Dk := { s with now := s.now.set i b, opn := s.opn ++ [(i, b)] }
def Dk.flush (s : Dk) : Dk := { s with last := s.now, opn := [] }

/-- Does the i-th write last? -/
def bit (keep i : Nat) : Bool := keep / 2 ^ (i % 64) % 2 == 1
/-- The place of the last of the first writes that lasts; -1: none does. -/
def lastK (keep : Nat) : Nat → Int
  | 0 => -1
  | i + 1 => if bit keep i then (i : Int) else lastK keep i
theorem lastK_lt (keep : Nat) : ∀ n, -1 ≤ lastK keep n ∧ lastK keep n < n
  | 0 => by simp [lastK]
  | n + 1 => by
    have := lastK_lt keep n
    unfold lastK
    split <;> omega
theorem lastK_bit (keep : Nat) : ∀ n (i : Nat), (i : Int) = lastK keep n → bit keep i = true
  | 0, i, h => by simp [lastK] at h
  | n + 1, i, h => by
    unfold lastK at h
    split at h
    · obtain rfl : i = n := by omega
      assumption
    · exact lastK_bit keep n i h

/-- How many bytes of a torn write last. -/
def cut (t : Int) (size : Nat) : Nat := (min (max t 0) (size : Int)).toNat
theorem cut_int (t : Int) (size : Nat) : (cut t size : Int) = min (max t 0) (size : Int) := by unfold cut; omega
theorem cut_le (t : Int) (size : Nat) : cut t size ≤ size := by unfold cut; omega

/-- The first bytes of one, the others of another. -/
def torn (t : Nat) (b o : ByteArray) : ByteArray := b.extract 0 t ++ o.extract t o.size
theorem torn_size (t : Nat) (b o : ByteArray) (hb : b.size = o.size) (ht : t ≤ o.size) : (torn t b o).size = o.size := by
  simp [torn, ByteArray.size_append]
  omega

def nil : ByteArray := ⟨#[]⟩
def step (keep : Nat) (lk : Int) (t : Nat) (l : List ByteArray) (i : Nat) (p : Nat × ByteArray) : List ByteArray :=
  if (i : Int) = lk then l.set p.1 (torn t p.2 (l.getD p.1 nil)) else if bit keep i then l.set p.1 p.2 else l
/-- What lasts of the first k writes. -/
def crashTo (keep : Nat) (lk : Int) (t : Nat) (opn : List (Nat × ByteArray)) (l : List ByteArray) : Nat → List ByteArray
  | 0 => l
  | k + 1 => match opn[k]? with
    | some p => step keep lk t (crashTo keep lk t opn l k) k p
    | none => crashTo keep lk t opn l k
def Dk.crashed (s : Dk) (keep t : Nat) : List ByteArray := crashTo keep (lastK keep s.opn.length) t s.opn s.last s.opn.length
def Dk.crash (s : Dk) (keep t : Nat) : Dk := { s with last := s.crashed keep t, now := s.crashed keep t, opn := [] }

/-- The first k writes' sectors taken over from src. -/
def cover (src : List ByteArray) (opn : List (Nat × ByteArray)) (l : List ByteArray) : Nat → List ByteArray
  | 0 => l
  | k + 1 => match opn[k]? with
    | some p => (cover src opn l k).set p.1 (src.getD p.1 nil)
    | none => cover src opn l k

theorem crashTo_succ {keep : Nat} {lk : Int} {t : Nat} {opn : List (Nat × ByteArray)} {l : List ByteArray} {k : Nat} (h : k < opn.length) : crashTo keep lk t opn l (k + 1) = step keep lk t (crashTo keep lk t opn l k) k opn[k] := by
  simp [crashTo, h]
theorem cover_succ {src : List ByteArray} {opn : List (Nat × ByteArray)} {l : List ByteArray} {k : Nat} (h : k < opn.length) : cover src opn l (k + 1) = (cover src opn l k).set opn[k].1 (src.getD opn[k].1 nil) := by
  simp [cover, h]

theorem step_len (keep : Nat) (lk : Int) (t : Nat) (l : List ByteArray) (i : Nat) (p : Nat × ByteArray) : (step keep lk t l i p).length = l.length := by
  unfold step
  split
  · simp
  · split <;> simp
theorem crashTo_len (keep : Nat) (lk : Int) (t : Nat) (opn : List (Nat × ByteArray)) (l : List ByteArray) : ∀ k, (crashTo keep lk t opn l k).length = l.length
  | 0 => rfl
  | k + 1 => by
    unfold crashTo
    split
    · rw [step_len, crashTo_len keep lk t opn l k]
    · exact crashTo_len keep lk t opn l k
theorem cover_len (src : List ByteArray) (opn : List (Nat × ByteArray)) (l : List ByteArray) : ∀ k, (cover src opn l k).length = l.length
  | 0 => rfl
  | k + 1 => by
    unfold cover
    split
    · rw [List.length_set, cover_len src opn l k]
    · exact cover_len src opn l k

theorem getD_mem {l : List ByteArray} {j : Nat} (h : j < l.length) : l.getD j nil ∈ l := by
  rw [List.getD_eq_getElem?_getD, List.getElem?_eq_getElem h]
  exact List.getElem_mem h

theorem step_sizes {keep : Nat} {lk : Int} {t size : Nat} {l : List ByteArray} {i : Nat} {p : Nat × ByteArray} (hl : ∀ x ∈ l, x.size = size) (hp : p.1 < l.length ∧ p.2.size = size) (ht : t ≤ size) : ∀ x ∈ step keep lk t l i p, x.size = size := by
  intro x hx
  unfold step at hx
  split at hx
  · rcases List.mem_or_eq_of_mem_set hx with h | h
    · exact hl x h
    · have h1 := hl _ (getD_mem hp.1)
      rw [h, torn_size _ _ _ (by omega) (by omega), h1]
  · split at hx
    · rcases List.mem_or_eq_of_mem_set hx with h | h
      · exact hl x h
      · rw [h]; exact hp.2
    · exact hl x hx
theorem crashTo_sizes {keep : Nat} {lk : Int} {t size : Nat} {opn : List (Nat × ByteArray)} {l : List ByteArray} (hl : ∀ x ∈ l, x.size = size) (hp : ∀ p ∈ opn, p.1 < l.length ∧ p.2.size = size) (ht : t ≤ size) : ∀ k, ∀ x ∈ crashTo keep lk t opn l k, x.size = size
  | 0 => hl
  | k + 1 => by
    unfold crashTo
    split
    · rename_i p hk
      have := hp p (List.mem_of_getElem? hk)
      exact step_sizes (crashTo_sizes hl hp ht k) (by rw [crashTo_len]; exact this) ht
    · exact crashTo_sizes hl hp ht k
theorem cover_sizes {src : List ByteArray} {size : Nat} {opn : List (Nat × ByteArray)} {l : List ByteArray} (hs : ∀ x ∈ src, x.size = size) (hl : ∀ x ∈ l, x.size = size) (hp : ∀ p ∈ opn, p.1 < src.length) : ∀ k, ∀ x ∈ cover src opn l k, x.size = size
  | 0 => hl
  | k + 1 => by
    unfold cover
    split
    · rename_i p hk
      intro x hx
      rcases List.mem_or_eq_of_mem_set hx with h | h
      · exact cover_sizes hs hl hp k x h
      · rw [h]; exact hs _ (getD_mem (hp p (List.mem_of_getElem? hk)))
    · exact cover_sizes hs hl hp k

theorem step_other {keep : Nat} {lk : Int} {t : Nat} {l : List ByteArray} {i j : Nat} {p : Nat × ByteArray} (h : p.1 ≠ j) : (step keep lk t l i p)[j]? = l[j]? := by
  unfold step
  split
  · rw [List.getElem?_set_ne h]
  · split
    · rw [List.getElem?_set_ne h]
    · rfl
theorem crashTo_other {keep : Nat} {lk : Int} {t : Nat} {opn : List (Nat × ByteArray)} {l : List ByteArray} {j : Nat} (h : ∀ p ∈ opn, p.1 ≠ j) : ∀ k, (crashTo keep lk t opn l k)[j]? = l[j]?
  | 0 => rfl
  | k + 1 => by
    unfold crashTo
    split
    · rename_i p hk
      rw [step_other (h p (List.mem_of_getElem? hk)), crashTo_other h k]
    · exact crashTo_other h k
theorem cover_other {src : List ByteArray} {opn : List (Nat × ByteArray)} {l : List ByteArray} {j : Nat} (h : ∀ p ∈ opn, p.1 ≠ j) : ∀ k, (cover src opn l k)[j]? = l[j]?
  | 0 => rfl
  | k + 1 => by
    unfold cover
    split
    · rename_i p hk
      rw [List.getElem?_set_ne (h p (List.mem_of_getElem? hk)), cover_other h k]
    · exact cover_other h k
theorem cover_in {src : List ByteArray} {opn : List (Nat × ByteArray)} {l : List ByteArray} (hlen : l.length = src.length) {j : Nat} : ∀ k, (∃ i, i < k ∧ ∃ p, opn[i]? = some p ∧ p.1 = j) → (cover src opn l k)[j]? = src[j]?
  | 0, ⟨i, hi, _⟩ => by omega
  | k + 1, ⟨i, hi, p, hp, hj⟩ => by
    unfold cover
    split
    · rename_i q hk
      by_cases hq : q.1 = j
      · rw [hq]
        by_cases hjl : j < src.length
        · rw [List.getElem?_set_self (by rw [cover_len]; omega), List.getD_eq_getElem?_getD, List.getElem?_eq_getElem hjl]
          rfl
        · rw [List.getElem?_eq_none (by rw [List.length_set, cover_len]; omega), List.getElem?_eq_none (by omega)]
      · rw [List.getElem?_set_ne hq]
        refine cover_in hlen k ⟨i, ?_, p, hp, hj⟩
        rcases Nat.lt_or_ge i k with h | h
        · exact h
        · obtain rfl : i = k := by omega
          rw [hk] at hp
          cases hp
          exact absurd hj hq
    · rename_i hk
      refine cover_in hlen k ⟨i, ?_, p, hp, hj⟩
      rcases Nat.lt_or_ge i k with h | h
      · exact h
      · obtain rfl : i = k := by omega
        rw [hk] at hp
        cases hp
/-- With all its sectors taken over it is the source. -/
theorem cover_all {src : List ByteArray} {opn : List (Nat × ByteArray)} {l : List ByteArray} (hlen : l.length = src.length) (h : ∀ j, (∀ p ∈ opn, p.1 ≠ j) → l[j]? = src[j]?) : cover src opn l opn.length = src := by
  apply List.ext_getElem?
  intro j
  by_cases hj : ∀ p ∈ opn, p.1 ≠ j
  · rw [cover_other hj, h j hj]
  · have ⟨p, hp, e⟩ : ∃ p, p ∈ opn ∧ p.1 = j := Classical.byContradiction fun hn => hj fun p hp e => hn ⟨p, hp, e⟩
    obtain ⟨i, hi, he⟩ := List.getElem_of_mem hp
    exact cover_in hlen _ ⟨i, hi, p, by rw [List.getElem?_eq_getElem hi, he], e⟩

/-! What stays good. -/
theorem Dk.Good.write {s : Dk} (h : s.Good) {i : Nat} {b : ByteArray} (hi : i < s.now.length) (hb : b.size = s.size) : (s.write i b).Good := by
  refine ⟨by simpa [Dk.write] using h.len, ?_, h.lasts, ?_, ?_, h.sz, by simpa [Dk.write] using h.n1, by simpa [Dk.write] using h.n0⟩
  · intro x hx
    rcases List.mem_or_eq_of_mem_set hx with h1 | h1
    · exact h.nows x h1
    · rw [h1]; exact hb
  · intro p hp
    rcases List.mem_append.1 hp with h1 | h1
    · simpa [Dk.write] using h.opns p h1
    · obtain rfl := List.mem_singleton.1 h1
      simpa [Dk.write] using ⟨hi, hb⟩
  · intro j hj
    have h1 : i ≠ j := hj (i, b) (List.mem_append_right _ (List.mem_singleton.2 rfl))
    show (s.now.set i b)[j]? = s.last[j]?
    rw [List.getElem?_set_ne h1]
    exact h.agree j fun p hp => hj p (List.mem_append_left _ hp)
theorem Dk.Good.flush {s : Dk} (h : s.Good) : s.flush.Good :=
  ⟨rfl, h.nows, h.nows, fun p hp => by simp [Dk.flush] at hp, fun _ _ => rfl, h.sz, h.n1, h.n0⟩
theorem Dk.Good.crashed {s : Dk} (h : s.Good) (keep : Nat) {t : Nat} (ht : t ≤ s.size) : (s.crashed keep t).length = s.now.length ∧ ∀ x ∈ s.crashed keep t, x.size = s.size :=
  ⟨by rw [Dk.crashed, crashTo_len, h.len], crashTo_sizes h.lasts (fun p hp => by rw [h.len]; exact h.opns p hp) ht _⟩
theorem Dk.Good.crash {s : Dk} (h : s.Good) (keep : Nat) {t : Nat} (ht : t ≤ s.size) : (s.crash keep t).Good := by
  obtain ⟨h1, h2⟩ := h.crashed keep ht
  refine ⟨rfl, h2, h2, fun p hp => by simp [Dk.crash] at hp, fun _ _ => rfl, h.sz, ?_, ?_⟩
  · show (s.crashed keep t).length ≤ 1024
    rw [h1]; exact h.n1
  · show 0 < (s.crashed keep t).length
    rw [h1]; exact h.n0
theorem Dk.Good.flushing {s : Dk} (h : s.Good) (k : Nat) : ({ s with last := cover s.now s.opn s.last k } : Dk).Good :=
  ⟨by simpa [cover_len] using h.len, h.nows, cover_sizes h.nows h.lasts (fun p hp => (h.opns p hp).1) k, h.opns, fun j hj => by
    show s.now[j]? = (cover s.now s.opn s.last k)[j]?
    rw [cover_other hj, h.agree j hj], h.sz, h.n1, h.n0⟩
theorem Dk.Good.crashing {s : Dk} (h : s.Good) (keep : Nat) (lk : Int) {t : Nat} (ht : t ≤ s.size) (k : Nat) : ({ s with last := crashTo keep lk t s.opn s.last k } : Dk).Good :=
  ⟨by simpa [crashTo_len] using h.len, h.nows, crashTo_sizes h.lasts (fun p hp => by rw [h.len]; exact h.opns p hp) ht k, h.opns, fun j hj => by
    show s.now[j]? = (crashTo keep lk t s.opn s.last k)[j]?
    rw [crashTo_other hj, h.agree j hj], h.sz, h.n1, h.n0⟩
theorem Dk.Good.rising {s : Dk} (h : s.Good) (k : Nat) : ({ s with now := cover s.last s.opn s.now k } : Dk).Good :=
  ⟨by simpa [cover_len] using h.len, cover_sizes h.lasts h.nows (fun p hp => by rw [h.len]; exact (h.opns p hp).1) k, h.lasts, fun p hp => by simpa [cover_len] using h.opns p hp, fun j hj => by
    show (cover s.last s.opn s.now k)[j]? = s.last[j]?
    rw [cover_other hj, h.agree j hj], h.sz, by simpa [cover_len] using h.n1, by simpa [cover_len] using h.n0⟩
theorem Dk.Good.flushed {s : Dk} (h : s.Good) : cover s.now s.opn s.last s.opn.length = s.now :=
  cover_all h.len fun j hj => (h.agree j hj).symm
theorem Dk.Good.risen {s : Dk} (h : s.Good) : cover s.last s.opn s.now s.opn.length = s.last :=
  cover_all h.len.symm fun j hj => h.agree j hj
end Go.Proofs.Ytooikkjgcpngdaa
