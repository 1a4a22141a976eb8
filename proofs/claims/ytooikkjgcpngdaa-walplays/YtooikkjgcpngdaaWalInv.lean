/-
  A log that stands on a disk which is flushed: it is opened as it is; what an append and a checkpoint make of it stands likewise (no run of a program in this text).
-/
import Derived.Test.YtooikkjgcpngdaaWalMath
import Derived.Test.YtooikkjgcpngdaaDiskB
namespace Go.Proofs.Ytooikkjgcpngdaa
open Fr (Rec secB valL lenV)

/-- A disk that is flushed, and the log that it has. -/
structure Log (s : Dk) (l : Lg) : Prop where
  good : s.Good
  big : s.Big
  flushed : s.opn = []
  area : l.area ≤ 1
  gen0 : 1 ≤ l.gen
  gen1 : l.gen < 4294967296
  whole : l.broken = false
  len : l.list.length + 1 ≤ s.half
  top : ∀ i g n p, i < s.now.length → look (s.at i) = some (g, n, p) → g ≤ l.gen
  head : headG (s.at (l.area * s.half)) = l.gen
  other : headG (s.at ((1 - l.area) * s.half)) < l.gen
  list : ∀ i (hi : i < l.list.length), look (s.at (l.area * s.half + (1 + i))) = some (l.gen, 1 + i, l.list[i])
  rest : ∀ i n p, l.list.length < i → i < s.half → look (s.at (l.area * s.half + i)) ≠ some (l.gen, n, p)

theorem headG_le {b : ByteArray} {m : Nat} (h : ∀ g n p, look b = some (g, n, p) → g ≤ m) : headG b ≤ m := by
  unfold headG
  split
  · rename_i g n p hl
    split
    · exact h g n p hl
    · omega
  · omega

theorem recs_eq (now : List ByteArray) (base gen : Nat) : ∀ (k i : Nat) (L : List ByteArray), L.length ≤ k →
    (∀ j (hj : j < L.length), look (now.getD (base + (i + j)) nil) = some (gen, i + j, L[j])) →
    (L.length < k → ∀ p, look (now.getD (base + (i + L.length)) nil) ≠ some (gen, i + L.length, p)) → recs now base gen k i = L
  | 0, i, L, h, _, _ => by
    obtain rfl : L = [] := List.length_eq_zero_iff.1 (by omega)
    rfl
  | k + 1, i, [], _, _, h2 => by
    unfold recs
    have h := h2 (by simp)
    simp only [List.length_nil, Nat.add_zero] at h
    split
    · rename_i g n p hl
      rw [if_neg]
      rintro ⟨rfl, rfl⟩
      exact h p hl
    · rfl
  | k + 1, i, x :: L, h0, h1, h2 => by
    have hx := h1 0 (by simp)
    simp only [Nat.add_zero, List.getElem_cons_zero] at hx
    unfold recs
    rw [hx]
    simp only [and_self, if_true]
    congr 1
    refine recs_eq now base gen k (i + 1) L (by simpa using h0) (fun j hj => ?_) (fun hk p => ?_)
    · have := h1 (j + 1) (by simpa using hj)
      rw [show i + 1 + j = i + (j + 1) by omega]
      simpa using this
    · have := h2 (by simpa using hk) p
      rw [show i + 1 + L.length = i + (x :: L).length by simp; omega]
      exact this

theorem open_log {s : Dk} {l : Lg} (h : Log s l) (fu : Fu) : openR s fu = (0, s, fu, some l) := by
  have hr : recs s.now (l.area * s.half) l.gen (s.half - 1) 1 = l.list := by
    have hlen := h.len
    refine recs_eq _ _ _ _ _ _ (by omega) (fun j hj => h.list j hj) (fun hk p => ?_)
    exact h.rest (1 + l.list.length) _ p (by omega) (by omega)
  have e0 : s.opn.length = 0 := by rw [h.flushed]; rfl
  have hg0 := h.gen0
  have hw := h.whole
  have hh := h.head
  have ho := h.other
  unfold openR opened
  rw [if_pos e0]
  obtain ⟨a, gn, L, b⟩ := l
  simp only at *
  subst hw
  rcases (by have := h.area; simp only at this; omega : a = 0 ∨ a = 1) with rfl | rfl
  · simp only [Nat.zero_mul, Nat.sub_zero, Nat.one_mul] at hh ho hr
    rw [if_neg (by omega), if_neg (by omega), hh, hr]
  · simp only [Nat.sub_self, Nat.zero_mul, Nat.one_mul] at hh ho hr
    rw [if_neg (by omega), if_pos (by omega), hh, hr]

/-! A sector behind a write. -/
theorem at_set {s s' : Dk} {i : Nat} {b : ByteArray} (hs : s'.now = s.now.set i b) (hi : i < s.now.length) (j : Nat) : s'.at j = if j = i then b else s.at j := by
  unfold Dk.at
  rw [hs, List.getD_eq_getElem?_getD, List.getElem?_set]
  by_cases h : i = j
  · subst h
    rw [if_pos rfl, if_pos rfl]
    simp [hi]
  · rw [if_neg h, if_neg (Ne.symm h), List.getD_eq_getElem?_getD]
theorem layS_ok {s : Dk} {fu : Fu} (h : layOk fu = true) (i : Nat) (b : ByteArray) : layS s fu i b = (s.write i b).flush := by
  unfold layOk at h
  unfold layS
  simp only [Bool.and_eq_true] at h
  rw [if_pos h.1, if_pos h.2]

theorem append_log {s : Dk} {l : Lg} (h : Log s l) {fu : Fu} (ho : layOk fu = true) (t : ByteArray) (ht : t.size + 14 ≤ s.size) (hl : l.list.length + 1 < s.half) :
    appendR s fu l t = (0, layS s fu (l.area * s.half + (l.list.length + 1)) (secB l.gen (l.list.length + 1) t s.size), layF fu, { l with list := l.list ++ [t] }) ∧
    Log (layS s fu (l.area * s.half + (l.list.length + 1)) (secB l.gen (l.list.length + 1) t s.size)) { l with list := l.list ++ [t] } := by
  have hn := h.good.n1
  have hh : s.half ≤ 512 := by unfold Dk.half; omega
  have h2 : 2 * s.half ≤ s.now.length := by unfold Dk.half; omega
  have hb : (secB l.gen (l.list.length + 1) t s.size).size = s.size := Fr.sec_size _ _ _ _ ht
  have hlook := look_sec l.gen (l.list.length + 1) s.size t h.big.size h.good.sz ht h.gen1 (by omega)
  obtain ⟨i, hi⟩ : ∃ i, i = l.area * s.half + (l.list.length + 1) := ⟨_, rfl⟩
  have ha : l.area * s.half ≤ s.half := by
    rcases (by have := h.area; omega : l.area = 0 ∨ l.area = 1) with e | e <;> rw [e] <;> omega
  have hil : i < s.now.length := by omega
  constructor
  · unfold appendR
    rw [h.whole, if_neg (by simp), if_neg (by omega), if_neg (by omega), if_pos ho, if_pos ho]
  rw [← hi]
  obtain ⟨b, hbb⟩ : ∃ b, b = secB l.gen (l.list.length + 1) t s.size := ⟨_, rfl⟩
  rw [← hbb] at hb hlook ⊢
  have hlay := layS_ok (s := s) ho i b
  obtain ⟨s', hs'⟩ : ∃ s', s' = layS s fu i b := ⟨_, rfl⟩
  have hnow : s'.now = s.now.set i b := by rw [hs', hlay]; rfl
  have hat := at_set hnow hil
  have hhalf : s'.half = s.half := by rw [hs', layS_half]
  have hlen' : s'.now.length = s.now.length := by rw [hs']; exact (layS_len s fu i b).1
  rw [← hs']
  have area0 : l.area * s.half ≠ i := by omega
  have other0 : (1 - l.area) * s.half ≠ i := by
    rcases (by have := h.area; omega : l.area = 0 ∨ l.area = 1) with e | e <;> rw [e] at hi ⊢ <;> omega
  refine ⟨by rw [hs']; exact layS_good fu h.good hil hb, by rw [hs']; exact layS_big fu i b h.big, by rw [hs', hlay]; rfl, h.area, h.gen0, h.gen1, h.whole, ?_, ?_, ?_, ?_, ?_, ?_⟩
  · simp only [List.length_append, List.length_singleton, hhalf]
    omega
  · intro j g n p hj hk
    rw [hat] at hk
    split at hk
    · rw [hlook] at hk
      simp only [Option.some.injEq, Prod.mk.injEq] at hk
      show g ≤ l.gen
      omega
    · exact h.top j g n p (by omega) hk
  · show headG (s'.at (l.area * s'.half)) = l.gen
    rw [hhalf, hat, if_neg area0]
    exact h.head
  · show headG (s'.at ((1 - l.area) * s'.half)) < l.gen
    rw [hhalf, hat, if_neg other0]
    exact h.other
  · intro j hj
    show look (s'.at (l.area * s'.half + (1 + j))) = some (l.gen, 1 + j, (l.list ++ [t])[j])
    simp only [List.length_append, List.length_singleton] at hj
    rw [hhalf, hat]
    by_cases hjl : j < l.list.length
    · rw [if_neg (by omega), List.getElem_append_left hjl]
      exact h.list j hjl
    · obtain rfl : j = l.list.length := by omega
      rw [if_pos (by omega), hlook, List.getElem_append_right (Nat.le_refl _)]
      simp [Nat.add_comm]
  · intro j n p hj hjh
    show look (s'.at (l.area * s'.half + j)) ≠ some (l.gen, n, p)
    simp only [List.length_append, List.length_singleton] at hj
    rw [hhalf] at hjh ⊢
    rw [hat, if_neg (by omega)]
    exact h.rest j n p (by omega) hjh

theorem check_log {s : Dk} {l : Lg} (h : Log s l) {fu : Fu} (ho : layOk fu = true) (ho2 : layOk (layF fu) = true) (t : ByteArray) (ht : t.size + 14 ≤ s.size) (hg : l.gen < 4294967295) :
    ∃ s', checkR s fu l t = (0, s', layF (layF fu), ⟨1 - l.area, l.gen + 1, [t], false⟩) ∧ Log s' ⟨1 - l.area, l.gen + 1, [t], false⟩ := by
  have hn := h.good.n1
  have hbig := h.big.len
  have hh : s.half ≤ 512 := by unfold Dk.half; omega
  have hh2 : 2 ≤ s.half := by unfold Dk.half; omega
  have h2 : 2 * s.half ≤ s.now.length := by unfold Dk.half; omega
  have h4 : headT.size + 14 ≤ s.size := by rw [headT_size]; have := h.big.size; omega
  have hb1 : (secB (l.gen + 1) 1 t s.size).size = s.size := Fr.sec_size _ _ _ _ ht
  have hb2 : (secB (l.gen + 1) 0 headT s.size).size = s.size := Fr.sec_size _ _ _ _ h4
  have hk1 := look_sec (l.gen + 1) 1 s.size t h.big.size h.good.sz ht (by omega) (by omega)
  have hk2 := look_sec (l.gen + 1) 0 s.size headT h.big.size h.good.sz h4 (by omega) (by omega)
  have hk3 := headG_sec (l.gen + 1) s.size h.big.size h.good.sz (by omega)
  obtain ⟨a, ha⟩ : ∃ a, a = 1 - l.area := ⟨_, rfl⟩
  obtain ⟨base, hbase⟩ : ∃ base, base = a * s.half := ⟨_, rfl⟩
  have hbl : base + s.half ≤ s.now.length := by
    rcases (by omega : a = 0 ∨ a = 1) with e | e <;> rw [e] at hbase <;> omega
  have hob : (1 - a) * s.half = l.area * s.half := by
    rcases (by have := h.area; omega : l.area = 0 ∨ l.area = 1) with e | e <;> rw [ha, e]
  have hne : l.area * s.half ≠ base ∧ l.area * s.half ≠ base + 1 ∧ l.area * s.half < s.now.length := by
    rcases (by have := h.area; omega : l.area = 0 ∨ l.area = 1) with e | e <;> rw [hbase, ha, e] <;> omega
  obtain ⟨b1, hbb1⟩ : ∃ b, b = secB (l.gen + 1) 1 t s.size := ⟨_, rfl⟩
  obtain ⟨b2, hbb2⟩ : ∃ b, b = secB (l.gen + 1) 0 headT s.size := ⟨_, rfl⟩
  obtain ⟨s1, hs1⟩ : ∃ s1, s1 = layS s fu (base + 1) b1 := ⟨_, rfl⟩
  obtain ⟨s2, hs2⟩ : ∃ s2, s2 = layS s1 (layF fu) (base + 0) b2 := ⟨_, rfl⟩
  refine ⟨s2, ?_, ?_⟩
  · unfold checkR
    rw [h.whole, if_neg (by simp), if_neg (by omega), if_neg (by omega), if_pos ho, if_pos ho2, if_pos ho2, hs2, hs1, hbb1, hbb2, hbase, ha]
  rw [← hbb1] at hb1 hk1
  rw [← hbb2] at hb2 hk2 hk3
  rw [← ha]
  have n1 : s1.now = s.now.set (base + 1) b1 := by rw [hs1, layS_ok ho]; rfl
  have l1 : s1.now.length = s.now.length := by rw [n1, List.length_set]
  have n2 : s2.now = s1.now.set base b2 := by rw [hs2, layS_ok ho2]; rfl
  have l2 : s2.now.length = s.now.length := by rw [n2, List.length_set, l1]
  have hat : ∀ j, s2.at j = if j = base then b2 else if j = base + 1 then b1 else s.at j := by
    intro j
    rw [at_set n2 (by omega) j, at_set n1 (by omega) j]
  have e1 : s1.size = s.size := by rw [hs1]; exact (layS_len ..).2
  have e2 : s2.size = s.size := by rw [hs2, (layS_len ..).2, e1]
  have hhalf : s2.half = s.half := by unfold Dk.half; rw [l2]
  have g1 : s1.Good := by rw [hs1]; exact layS_good fu h.good (by omega) hb1
  have g2 : s2.Good := by rw [hs2]; exact layS_good _ g1 (by omega) (by rw [e1]; exact hb2)
  refine ⟨g2, ⟨by rw [e2]; exact h.big.size, by rw [l2]; exact h.big.len⟩, by rw [hs2, layS_ok ho2]; rfl, by show a ≤ 1; omega, by show 1 ≤ l.gen + 1; omega, by show l.gen + 1 < _; omega, rfl, ?_, ?_, ?_, ?_, ?_, ?_⟩
  · show 1 + 1 ≤ s2.half
    rw [hhalf]; omega
  · intro j g n p hj hk
    show g ≤ l.gen + 1
    rw [hat] at hk
    split at hk
    · rw [hk2] at hk
      simp only [Option.some.injEq, Prod.mk.injEq] at hk
      omega
    · split at hk
      · rw [hk1] at hk
        simp only [Option.some.injEq, Prod.mk.injEq] at hk
        omega
      · have := h.top j g n p (by omega) hk
        omega
  · show headG (s2.at (a * s2.half)) = l.gen + 1
    rw [hhalf, ← hbase, hat, if_pos rfl]
    exact hk3
  · show headG (s2.at ((1 - a) * s2.half)) < l.gen + 1
    rw [hhalf, hob, hat, if_neg hne.1, if_neg hne.2.1, h.head]
    omega
  · intro j hj
    show look (s2.at (a * s2.half + (1 + j))) = some (l.gen + 1, 1 + j, [t][j])
    obtain rfl : j = 0 := by simpa using hj
    rw [hhalf, ← hbase, hat, if_neg (by omega), if_pos rfl]
    exact hk1
  · intro j n p hj hjh
    show look (s2.at (a * s2.half + j)) ≠ some (l.gen + 1, n, p)
    simp only [List.length_singleton] at hj
    rw [hhalf] at hjh ⊢
    rw [← hbase, hat, if_neg (by omega), if_neg (by omega)]
    intro hk
    have := h.top (base + j) _ n p (by omega) hk
    omega

/-! A fresh disk. -/
theorem fresh_at (z n j : Nat) (hj : j < n) : (fresh z n).at j = Fr.zer z := by
  unfold Dk.at fresh
  simp [hj]
  rfl
theorem fresh_log (z n : Nat) (h1 : 128 ≤ z) (h2 : z ≤ 1024) (h3 : 4 ≤ n) (h4 : n ≤ 1024) {fu : Fu} (ho : layOk fu = true) :
    ∃ s', openR (fresh z n) fu = (0, s', layF fu, some ⟨0, 1, [], false⟩) ∧ Log s' ⟨0, 1, [], false⟩ ∧ s'.size = z ∧ s'.now.length = n := by
  have hg := fresh_good z n h2 h4 (by omega)
  have hlen : (fresh z n).now.length = n := by simp [fresh]
  have hsz : (fresh z n).size = z := rfl
  have hhalf : (fresh z n).half = n / 2 := by unfold Dk.half; rw [hlen]
  have z0 : headG ((fresh z n).at 0) = 0 := by rw [fresh_at z n 0 (by omega)]; unfold headG; rw [look_zer]
  have z1 : headG ((fresh z n).at (fresh z n).half) = 0 := by rw [hhalf, fresh_at z n _ (by omega)]; unfold headG; rw [look_zer]
  have h5 : headT.size + 14 ≤ z := by rw [headT_size]; omega
  have hb : (secB 1 0 headT z).size = z := Fr.sec_size _ _ _ _ h5
  have hk := look_sec 1 0 z headT h1 h2 h5 (by omega) (by omega)
  have hk3 := headG_sec 1 z h1 h2 (by omega)
  obtain ⟨b, hbb⟩ : ∃ b, b = secB 1 0 headT z := ⟨_, rfl⟩
  rw [← hbb] at hb hk hk3
  obtain ⟨s1, hs1⟩ : ∃ s1, s1 = layS (fresh z n) fu 0 b := ⟨_, rfl⟩
  have n1 : s1.now = (fresh z n).now.set 0 b := by rw [hs1, layS_ok ho]; rfl
  have l1 : s1.now.length = n := by rw [n1, List.length_set, hlen]
  have e1 : s1.size = z := by rw [hs1, (layS_len ..).2]; rfl
  have hh1 : s1.half = n / 2 := by unfold Dk.half; rw [l1]
  have hat : ∀ j, j < n → s1.at j = if j = 0 then b else Fr.zer z := by
    intro j hj
    rw [at_set n1 (by omega) j, fresh_at z n j hj]
  have g1 : s1.Good := by rw [hs1]; exact layS_good fu hg (by omega) hb
  have hlog : Log s1 ⟨0, 1, [], false⟩ := by
    refine ⟨g1, ⟨by omega, by omega⟩, by rw [hs1, layS_ok ho]; rfl, by show 0 ≤ 1; omega, by show 1 ≤ 1; omega, by show 1 < 4294967296; omega, rfl, ?_, ?_, ?_, ?_, ?_, ?_⟩
    · show 0 + 1 ≤ s1.half
      omega
    · intro j g m p hj hl
      show g ≤ 1
      rw [hat j (by omega)] at hl
      split at hl
      · rw [hk] at hl
        simp only [Option.some.injEq, Prod.mk.injEq] at hl
        omega
      · rw [look_zer] at hl
        cases hl
    · show headG (s1.at (0 * s1.half)) = 1
      rw [Nat.zero_mul, hat 0 (by omega), if_pos rfl]
      exact hk3
    · show headG (s1.at ((1 - 0) * s1.half)) < 1
      rw [Nat.sub_zero, Nat.one_mul, hat _ (by omega), if_neg (by omega)]
      rw [show headG (Fr.zer z) = 0 by unfold headG; rw [look_zer]]
      omega
    · intro j hj
      simp at hj
    · intro j m p hj hjh
      show look (s1.at (0 * s1.half + j)) ≠ some (1, m, p)
      simp only [List.length_nil] at hj
      rw [Nat.zero_mul, Nat.zero_add, hat j (by omega), if_neg (by omega), look_zer]
      simp
  refine ⟨s1, ?_, hlog, e1, l1⟩
  have hrec : recs s1.now 0 1 ((fresh z n).half - 1) 1 = [] := by
    refine recs_eq _ _ _ _ _ _ (by simp) (fun j hj => by simp at hj) (fun hk p => ?_)
    have := hlog.rest 1 1 p (by simp) (by rw [hh1]; omega)
    simpa [Dk.at] using this
  unfold openR opened
  rw [if_pos (show (fresh z n).opn.length = 0 from rfl), if_pos ⟨z0, z1⟩, if_pos ho, hsz, ← hbb, ← hs1, hrec]

/-! A fuse that isn't armed bears all. -/
theorem free_ok {fu : Fu} (h : fu.armed = false) : fu.ok = true := by simp [Fu.ok, h]
theorem free_spent {fu : Fu} (h : fu.armed = false) : fu.spent.armed = false := by
  unfold Fu.spent
  rw [if_pos (free_ok h)]
  exact h
theorem free_lay {fu : Fu} (h : fu.armed = false) : layOk fu = true ∧ (layF fu).armed = false := by
  refine ⟨?_, ?_⟩
  · unfold layOk
    rw [free_ok h, free_ok (free_spent h)]
    rfl
  · unfold layF
    rw [if_pos (free_ok h)]
    exact free_spent (free_spent h)
end Go.Proofs.Ytooikkjgcpngdaa
