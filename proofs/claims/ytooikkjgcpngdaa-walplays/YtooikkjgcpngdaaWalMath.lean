/-
  Plain facts of a log on a disk, without the program: which record a sector has, what an append, a checkpoint and an opening make of a disk.
-/
import Derived.Test.YtooikkjgcpngdaaMem
import Derived.Test.YtooikkjgcpngdaaFrameMath
namespace Go.Proofs.Ytooikkjgcpngdaa
open Fr (Rec secB valL lenV)

/-- The record of a sector: its generation, its number, its payload. -/
noncomputable def look (b : ByteArray) : Option (Nat × Nat × ByteArray) :=
  open Classical in if Rec b then some (valL (b.extract 2 6).data.toList, valL (b.extract 6 10).data.toList, b.extract 14 (14 + lenV b)) else none
theorem look_lt {b : ByteArray} {g n : Nat} {p : ByteArray} (h : look b = some (g, n, p)) : g < 4294967296 ∧ n < 4294967296 ∧ p.size + 14 ≤ b.size ∧ b.size ≤ 1024 := by
  unfold look at h
  split at h
  · rename_i hr
    simp only [Option.some.injEq, Prod.mk.injEq] at h
    obtain ⟨rfl, rfl, rfl⟩ := h
    have key : ∀ a, valL (b.extract a (a + 4)).data.toList < 4294967296 := fun a => Fr.valL_lt _ 4 (by rw [Fr.ext_data, List.length_take]; omega)
    refine ⟨key 2, key 6, ?_, hr.2.1⟩
    have := hr.2.2.1
    rw [← Fr.len_data', Fr.ext_data, List.length_take, List.length_drop, Fr.len_data']
    omega
  · cases h
theorem look_sec (gen seq size : Nat) (p : ByteArray) (h1 : 128 ≤ size) (h2 : size ≤ 1024) (hp : p.size + 14 ≤ size) (hg : gen < 4294967296) (hq : seq < 4294967296) : look (secB gen seq p size) = some (gen, seq, p) := by
  obtain ⟨hr, _⟩ := Fr.sec_rec gen seq p size h1 h2 hp hg hq
  obtain ⟨a1, a2, a3, _, a5, _, _⟩ := Fr.sec_parts gen seq p size (by omega) hg hq
  unfold look
  rw [if_pos hr, a1, a2, a3, a5]
theorem zer_not (n : Nat) : ¬ Rec (Fr.zer n) := by
  intro h
  have hn : 128 ≤ n := by have := h.1; rwa [Fr.zer_size] at this
  obtain ⟨m, rfl⟩ : ∃ m, n = 14 + m := ⟨n - 14, by omega⟩
  have cut : ∀ i j, j ≤ 14 → i ≤ j → (Fr.zer (14 + m)).extract i j = Fr.zer (j - i) := fun i j hj hi => by
    apply Fr.data_inj
    rw [Fr.ext_data, Fr.zer_data, Fr.zer_data, List.drop_replicate, List.take_replicate]
    congr 1
    omega
  have e2 : lenV (Fr.zer (14 + m)) = 0 := by unfold lenV; rw [cut 0 2 (by omega) (by omega), Fr.zer_data]; decide
  have e4 : (Fr.zer (14 + m)).extract 0 10 ++ (Fr.zer (14 + m)).extract 14 (14 + 0) = Fr.zer 10 := by
    rw [cut 0 10 (by omega) (by omega), cut 14 14 (by omega) (by omega)]
    apply Fr.data_inj
    rw [Go.Joins.data_append, Fr.zer_data, Fr.zer_data]
    rfl
  have h5 := h.2.2.2.2
  unfold Fr.sumOk at h5
  rw [e2, cut 10 14 (by omega) (by omega), e4, Fr.zer_data] at h5
  have h6 : Fr.zer (14 - 10) = Fr.putB 0#32 := by apply Fr.data_inj; rw [Fr.zer_data, Fr.putB_data]; decide
  rw [h6] at h5
  have h7 := Fr.put_inj h5
  revert h7
  decide +kernel
theorem look_zer (n : Nat) : look (Fr.zer n) = none := by
  unfold look
  rw [if_neg (zer_not n)]

def headT : ByteArray := ⟨#[104, 101, 97, 100]⟩
theorem headT_size : headT.size = 4 := rfl
/-- The generation of the head that a sector is; 0: it is none. -/
noncomputable def headG (b : ByteArray) : Nat := match look b with
  | some (g, n, p) => open Classical in if n = 0 ∧ p = headT then g else 0
  | none => 0
theorem headG_sec (gen size : Nat) (h1 : 128 ≤ size) (h2 : size ≤ 1024) (hg : gen < 4294967296) : headG (secB gen 0 headT size) = gen := by
  unfold headG
  rw [look_sec gen 0 size headT h1 h2 (by rw [headT_size]; omega) hg (by omega)]
  simp
theorem headG_lt (b : ByteArray) : headG b < 4294967296 := by
  unfold headG
  split
  · rename_i g n p h
    have := (look_lt h).1
    split <;> omega
  · omega

def Dk.half (s : Dk) : Nat := s.now.length / 2
def Dk.at (s : Dk) (i : Nat) : ByteArray := s.now.getD i nil
structure Dk.Big (s : Dk) : Prop where
  size : 128 ≤ s.size
  len : 4 ≤ s.now.length
/-- The payloads of k sectors from the i-th of an area on, as long as each has a record of that generation and its place's number. -/
noncomputable def recs (now : List ByteArray) (base gen : Nat) : Nat → Nat → List ByteArray
  | 0, _ => []
  | k + 1, i => match look (now.getD (base + i) nil) with
    | some (g, n, p) => if g = gen ∧ n = i then p :: recs now base gen k (i + 1) else []
    | none => []

/-- A log: its area, its generation, its records, whether it is broken. -/
structure Lg where
  area : Nat
  gen : Nat
  list : List ByteArray
  broken : Bool

/-! A record is written and flushed. -/
def layOk (fu : Fu) : Bool := fu.ok && fu.spent.ok
def layS (s : Dk) (fu : Fu) (i : Nat) (b : ByteArray) : Dk := if fu.ok then (if fu.spent.ok then (s.write i b).flush else s.write i b) else s
def layF (fu : Fu) : Fu := if fu.ok then fu.spent.spent else fu.spent

theorem layS_len (s : Dk) (fu : Fu) (i : Nat) (b : ByteArray) : (layS s fu i b).now.length = s.now.length ∧ (layS s fu i b).size = s.size := by
  unfold layS
  split
  · split <;> simp [Dk.write, Dk.flush]
  · exact ⟨rfl, rfl⟩
theorem layS_opn (s : Dk) (fu : Fu) (i : Nat) (b : ByteArray) : (layS s fu i b).opn.length ≤ s.opn.length + 1 := by
  unfold layS
  split
  · split <;> simp [Dk.write, Dk.flush]
  · omega
theorem layS_good {s : Dk} (fu : Fu) {i : Nat} {b : ByteArray} (h : s.Good) (hi : i < s.now.length) (hb : b.size = s.size) : (layS s fu i b).Good := by
  unfold layS
  split
  · split
    · exact (h.write hi hb).flush
    · exact h.write hi hb
  · exact h
theorem layS_big {s : Dk} (fu : Fu) (i : Nat) (b : ByteArray) (h : s.Big) : (layS s fu i b).Big := by
  obtain ⟨h1, h2⟩ := layS_len s fu i b
  exact ⟨by rw [h2]; exact h.size, by rw [h1]; exact h.len⟩
theorem layS_half (s : Dk) (fu : Fu) (i : Nat) (b : ByteArray) : (layS s fu i b).half = s.half := by
  unfold Dk.half
  rw [(layS_len s fu i b).1]
theorem layF_good {fu : Fu} (h : fu.Good) : (layF fu).Good := by
  unfold layF
  split
  · exact h.spent.spent
  · exact h.spent
theorem layF_count (fu : Fu) : fu.count ≤ (layF fu).count ∧ (layF fu).count ≤ fu.count + 2 := by
  have h1 := fu.spent_count
  have h2 := fu.spent.spent_count
  unfold layF
  split <;> omega

/-! An append, a checkpoint, an opening: what is told, the disk, the fuse and the log behind it. -/
noncomputable def appendR (s : Dk) (fu : Fu) (l : Lg) (t : ByteArray) : Int × Dk × Fu × Lg :=
  if l.broken then (2, s, fu, l)
  else if s.size < t.size + 14 then (5, s, fu, l)
  else if s.half ≤ l.list.length + 1 then (3, s, fu, l)
  else (if layOk fu then 0 else 2, layS s fu (l.area * s.half + (l.list.length + 1)) (secB l.gen (l.list.length + 1) t s.size), layF fu,
    if layOk fu then { l with list := l.list ++ [t] } else { l with broken := true })
noncomputable def checkR (s : Dk) (fu : Fu) (l : Lg) (t : ByteArray) : Int × Dk × Fu × Lg :=
  if l.broken then (2, s, fu, l)
  else if s.size < t.size + 14 then (5, s, fu, l)
  else if 4294967295 ≤ l.gen then (9, s, fu, l)
  else if layOk fu then
    (if layOk (layF fu) then 0 else 2, layS (layS s fu ((1 - l.area) * s.half + 1) (secB (l.gen + 1) 1 t s.size)) (layF fu) ((1 - l.area) * s.half + 0) (secB (l.gen + 1) 0 headT s.size), layF (layF fu),
      if layOk (layF fu) then ⟨1 - l.area, l.gen + 1, [t], l.broken⟩ else { l with broken := true })
  else (2, layS s fu ((1 - l.area) * s.half + 1) (secB (l.gen + 1) 1 t s.size), layF fu, { l with broken := true })

/-- Behind a disk that is flushed. -/
noncomputable def opened (s : Dk) (fu : Fu) : Int × Dk × Fu × Option Lg :=
  if headG (s.at 0) = 0 ∧ headG (s.at s.half) = 0 then
    (if layOk fu then (0, layS s fu 0 (secB 1 0 headT s.size), layF fu, some ⟨0, 1, recs (layS s fu 0 (secB 1 0 headT s.size)).now 0 1 (s.half - 1) 1, false⟩)
     else (2, layS s fu 0 (secB 1 0 headT s.size), layF fu, none))
  else if headG (s.at 0) < headG (s.at s.half) then (0, s, fu, some ⟨1, headG (s.at s.half), recs s.now s.half (headG (s.at s.half)) (s.half - 1) 1, false⟩)
  else (0, s, fu, some ⟨0, headG (s.at 0), recs s.now 0 (headG (s.at 0)) (s.half - 1) 1, false⟩)
noncomputable def openR (s : Dk) (fu : Fu) : Int × Dk × Fu × Option Lg :=
  if s.opn.length = 0 then opened s fu else if fu.ok then opened s.flush fu.spent else (2, s, fu.spent, none)
end Go.Proofs.Ytooikkjgcpngdaa
