/-
  The program's log as the laws see it where the fuse isn't armed; Same of two lists of texts.
-/
import Derived.Test.YtooikkjgcpngdaaWalI
import Derived.Test.YtooikkjgcpngdaaWalInv
namespace Go.Proofs.Ytooikkjgcpngdaa
open Go.RowKit
open Fr (Rec secB valL lenV)

/-- The slice v reads as the values xs. -/
def Vals (w : World) (v : Value) (xs : List Value) : Prop :=
  (v = .slice none 0 0 ∧ xs = []) ∨
  ∃ a c, v = .slice (some a) xs.length c ∧ xs.length ≤ c ∧ (0 < xs.length → a.block < w.heap.size) ∧ ∀ k u, xs[k]? = some u → w.cell? (a.add k) = some u
section
variable {w w' : World} {v : Value} {xs : List Value}
theorem add_block (a : Addr) (n : Nat) : (a.add n).block = a.block := by unfold Addr.add; split <;> rfl
theorem Vals.keep (h : Vals w v xs) (hs : w.heap.size ≤ w'.heap.size) (hk : ∀ p : Addr, p.block < w.heap.size → w'.cell? p = w.cell? p) : Vals w' v xs := by
  rcases h with h | ⟨a, c, hv, hc, hb, hx⟩
  · exact .inl h
  · refine .inr ⟨a, c, hv, hc, fun h0 => Nat.lt_of_lt_of_le (hb h0) hs, fun k u hu => (hk _ ?_).trans (hx k u hu)⟩
    have : k < xs.length := (List.getElem?_eq_some_iff.1 hu).1
    rw [add_block]
    exact hb (by omega)
theorem Vals.under (h : Vals w v xs) (hb : Below w.heap.size w w') : Vals w' v xs := h.keep hb.size fun _ hp => hb.cell hp
theorem Vals.slice (h : Vals w v xs) : ∃ A c, v = .slice A xs.length c := by
  rcases h with ⟨rfl, rfl⟩ | ⟨a, c, rfl, _⟩
  · exact ⟨_, _, rfl⟩
  · exact ⟨_, _, rfl⟩
theorem Vals.full (h : Vals w v xs) (hn : 0 < xs.length) : ∃ b off c, v = .slice (some ⟨b, off, none⟩) xs.length c ∧ xs.length ≤ c ∧ b < w.heap.size ∧ ∀ k u, xs[k]? = some u → w.cell? ⟨b, off + k, none⟩ = some u := by
  rcases h with ⟨_, rfl⟩ | ⟨⟨b, off, spot⟩, c, hv, hc, hb, hx⟩
  · simp at hn
  · have hspot : spot = none := by simpa [Addr.add] using World.cell?_spot (hx 0 xs[0] (List.getElem?_eq_getElem hn))
    subst hspot
    have hadd : ∀ i, (⟨b, off, none⟩ : Addr).add i = ⟨b, off + i, none⟩ := fun i => by unfold Addr.add; split <;> simp_all
    exact ⟨b, off, c, hv, hc, hb hn, fun k u hu => by rw [← hadd k]; exact hx k u hu⟩
/-- A row that the call made, whole, reads as what it holds. -/
theorem Vals.of_own {B n : Nat} {e : TypeId} (h : w.ownsRow B e 1 v n xs) : Vals w v xs := by
  obtain ⟨h1, h2⟩ := h
  rw [Nat.mul_one] at h1
  subst h1
  rcases h2 with ⟨hv, hn⟩ | ⟨g, cap, cur, hv, hg, hh, hn, hc, hs, ht⟩
  · exact .inl ⟨hv, List.eq_nil_of_length_eq_zero hn⟩
  · refine .inr ⟨⟨g, 0, none⟩, cap, hv, hn, fun _ => lt_of_block hh, fun k u hu => ?_⟩
    have hadd : (⟨g, 0, none⟩ : Addr).add k = ⟨g, k, none⟩ := by unfold Addr.add; split <;> simp_all
    rw [hadd, cell_of_row w g k cur e (0, 0) hh]
    have hk : k < xs.length := (List.getElem?_eq_some_iff.1 hu).1
    rw [← ht, Nat.mul_one, List.getElem?_take_of_lt hk] at hu
    simpa using hu
theorem vals_new (w : World) (ss : List ByteArray) (t : TypeId) : Vals (w.alloc (.cells (strs ss).toArray t)) (.slice (some ⟨w.heap.size, 0, none⟩) ss.length ss.length) (strs ss) := by
  refine .inr ⟨⟨w.heap.size, 0, none⟩, ss.length, by rw [strs_len], by rw [strs_len]; exact Nat.le_refl _, fun _ => by simp, fun k u hu => ?_⟩
  have hadd : (⟨w.heap.size, 0, none⟩ : Addr).add k = ⟨w.heap.size, k, none⟩ := by unfold Addr.add; split <;> simp_all
  rw [hadd, cell_of_row _ w.heap.size k (strs ss).toArray t (0, 0) (by simpa using heap_alloc_new w _)]
  simpa using hu
end
theorem below_drewN (B : Nat) (w : World) (n : Nat) : Below B w (w.drewN n) := ⟨rfl, rfl, rfl, Nat.le_refl _, fun _ _ => rfl⟩
theorem strs_at (xs : List ByteArray) (k : Nat) (h : k < xs.length) : (strs xs)[k]? = some (.string xs[k]) := by simp [strs, h]

/-- Are two lists one? -/
def sameB (xs ys : List ByteArray) : Bool := open Classical in decide (xs = ys)

set_option maxHeartbeats 1000000 in
theorem same_len (xs ys : List ByteArray) (va vb : Value) (w : World) (hl : xs.length ≠ ys.length) (ha : Vals w va (strs xs)) (hb : Vals w vb (strs ys)) :
    Calls Try.prog 23 #[va, vb] w fun e w' => e = .returned (.bool false) ∧ Below w.heap.size w w' := by
  obtain ⟨A, c, rfl⟩ := ha.slice
  obtain ⟨B, d, rfl⟩ := hb.slice
  rw [strs_len, strs_len]
  clear ha hb
  go_enter Try.func23, Try.ntmps23
  go_wp2
  go_ret
  exact ⟨rfl, Below.refl _ _⟩

set_option maxHeartbeats 1000000 in
theorem same_eq (xs ys : List ByteArray) (va vb : Value) (w : World) (hl : xs.length = ys.length) (ha : Vals w va (strs xs)) (hb : Vals w vb (strs ys)) (h1 : xs.length ≤ 20000) :
    Calls Try.prog 23 #[va, vb] w fun e w' => e = .returned (.bool (sameB xs ys)) ∧ Below w.heap.size w w' := by
  by_cases h0 : xs.length = 0
  · obtain rfl : xs = [] := List.eq_nil_of_length_eq_zero h0
    obtain rfl : ys = [] := List.eq_nil_of_length_eq_zero hl.symm
    obtain ⟨A, c, rfl⟩ := ha.slice
    obtain ⟨B, d, rfl⟩ := hb.slice
    clear ha hb hl h0 h1
    have HE : Hid (sameB [] [] = true) := Lib.hid (by simp [sameB])
    rw [show (strs []).length = 0 from rfl]
    go_enter Try.func23, Try.ntmps23
    go_wp2
    refine wp_loop_rounds 1 ?_
    rw [rounds_succ]
    go_wp2
    go_ret
    exact ⟨by rw [HE.out]; rfl, Below.refl _ _⟩
  · obtain ⟨ba, oa, ca, rfl, hca, hba, hxa⟩ := ha.full (by rw [strs_len]; omega)
    obtain ⟨bb, ob, cb, rfl, hcb, hbb, hxb⟩ := hb.full (by rw [strs_len]; omega)
    have HL := Lib.hid hl
    rw [strs_len, strs_len, ← hl]
    obtain ⟨N, hN⟩ : ∃ N, N = xs.length := ⟨_, rfl⟩
    rw [← hN] at h0 h1 ⊢
    have HN := Lib.hid hN
    have HA := Lib.hid hxa
    have HB := Lib.hid hxb
    clear ha hb hxa hxb hl hca hcb hN
    go_enter Try.func23, Try.ntmps23
    go_wp2
    go_loopg [5] N (fun g i wr => ∃ k m : Nat, Hid (g = N - k) ∧ k ≤ N ∧ i = .int .i64 k ∧ Hid (wr = w.drewN m) ∧ Hid (xs.take k = ys.take k))
    case atStart => exact ⟨0, 0, Lib.hid rfl, Nat.zero_le _, rfl, Lib.hid rfl, Lib.hid rfl⟩
    case round =>
      obtain ⟨k, m, HG, hk, rfl, HW, HQ⟩ := hrel
      by_cases hlt : k < N
      · have hk1 : k < xs.length := by rw [← HN.out]; exact hlt
        have hk2 : k < ys.length := by rw [← HL.out]; exact hk1
        have c1 : wr.cell? ⟨ba, oa + k, none⟩ = some (.string xs[k]) := by rw [HW.out]; exact HA.out k _ (strs_at xs k hk1)
        have c2 : wr.cell? ⟨bb, ob + k, none⟩ = some (.string ys[k]) := by rw [HW.out]; exact HB.out k _ (strs_at ys k hk2)
        by_cases he : xs[k] = ys[k]
        · have HT : Hid (xs.take (k + 1) = ys.take (k + 1)) := Lib.hid (by rw [List.take_succ_eq_append_getElem hk1, List.take_succ_eq_append_getElem hk2, HQ.out, he])
          rw [← he] at c2
          clear he
          go_wp2_with fail
          go_quiet (fail)
          go_wp2
          go_roundg (N - (k + 1))
          case measure => have := HG.out; omega
          case rel => exact ⟨k + 1, _, Lib.hid rfl, by omega, by go_num, by rw [HW.out]; exact Lib.hid (by simp; rfl), HT⟩
        · have HE : Hid (sameB xs ys = false) := Lib.hid (by
            unfold sameB
            rw [decide_eq_false_iff_not]
            intro e
            subst e
            exact he rfl)
          have e1 := Fr.str_ne he
          clear he
          go_wp2_with fail
          go_quiet (fail)
          go_wp2
          go_ret
          exact ⟨by rw [HE.out]; rfl, by rw [HW.out]; exact (below_drewN _ _ _).trans (below_drewN _ _ _)⟩
      · have HE : Hid (sameB xs ys = true) := Lib.hid (by
          have h1 := HQ.out
          rw [List.take_of_length_le (by rw [← HN.out]; omega), List.take_of_length_le (by rw [← HL.out, ← HN.out]; omega)] at h1
          unfold sameB
          rw [h1]
          simp)
        go_wp2
        go_ret
        exact ⟨by rw [HE.out]; rfl, by rw [HW.out]; exact below_drewN _ _ _⟩
theorem same_any (xs ys : List ByteArray) (va vb : Value) (w : World) (ha : Vals w va (strs xs)) (hb : Vals w vb (strs ys)) (h1 : xs.length ≤ 20000) :
    Calls Try.prog 23 #[va, vb] w fun e w' => e = .returned (.bool (sameB xs ys)) ∧ Below w.heap.size w w' := by
  by_cases hl : xs.length = ys.length
  · exact same_eq xs ys va vb w hl ha hb h1
  · have e : sameB xs ys = false := by
      unfold sameB
      rw [decide_eq_false_iff_not]
      intro e
      exact hl (congrArg _ e)
    rw [e]
    exact same_len xs ys va vb w hl ha hb
theorem same_self (xs : List ByteArray) : sameB xs xs = true := by simp [sameB]

variable {P Q : Nat → Prop} {w w' : World} {B d f v n : Nat} {fu : Fu} {s : Dk} {l : Lg}

/-- A log on a flushed disk whose fuse isn't armed: n is how many calls it bore at most. -/
structure LogP (w : World) (B : Nat) (P : Nat → Prop) (d f : Nat) (s : Dk) (fu : Fu) (v : Nat) (l : Lg) (n : Nat) : Prop where
  wal : WalP w B P d f s fu v l
  log : Log s l
  free : fu.armed = false
  cnt : fu.count ≤ (n : Int)
theorem LogP.stays (h : LogP w B P d f s fu v l n) (hs : w.heap.size ≤ w'.heap.size) (hb : ∀ k, (P k ∨ k = v) → w'.heap[k]? = w.heap[k]?) : LogP w' B P d f s fu v l n := ⟨h.wal.stays hs hb, h.log, h.free, h.cnt⟩
theorem LogP.under (h : LogP w B P d f s fu v l n) (hk : Below w.heap.size w w') : LogP w' B P d f s fu v l n := ⟨h.wal.under hk, h.log, h.free, h.cnt⟩
theorem LogP.alike (h : LogP w B P d f s fu v l n) (hk : Alike w' w) : LogP w' B P d f s fu v l n := ⟨h.wal.alike hk, h.log, h.free, h.cnt⟩
theorem LogP.half (h : LogP w B P d f s fu v l n) : l.list.length + 1 ≤ s.half ∧ s.half ≤ 512 := ⟨h.log.len, (Dk.half_le h.log.good).1⟩
theorem LogP.below (hk : Kept (fun k => P k ∨ k = v) w w') (h : WalP w B P d f s fu v l) (hB : B ≤ w.heap.size) : Below B w w' := hk.below (fun k hp => (h.lt k hp).1) hB

/-- What Append tells; the log behind it. -/
def acode (s : Dk) (l : Lg) (t : ByteArray) : Int := if s.size < t.size + 14 then 5 else if s.half ≤ l.list.length + 1 then 3 else 0
def alog (s : Dk) (l : Lg) (t : ByteArray) : Lg := if s.size < t.size + 14 then l else if s.half ≤ l.list.length + 1 then l else { l with list := l.list ++ [t] }
def ccode (s : Dk) (l : Lg) (t : ByteArray) : Int := if s.size < t.size + 14 then 5 else if 4294967295 ≤ l.gen then 9 else 0
def clog (s : Dk) (l : Lg) (t : ByteArray) : Lg := if s.size < t.size + 14 then l else if 4294967295 ≤ l.gen then l else ⟨1 - l.area, l.gen + 1, [t], false⟩

/-- What a call of a log leaves. -/
def LogQ (w : World) (B : Nat) (P : Nat → Prop) (d f : Nat) (s : Dk) (fu : Fu) (v : Nat) (l' : Lg) (n : Nat) (c : Int) (e : Ending) (w' : World) : Prop :=
  e = .returned (.int .i64 c) ∧ ∃ P' s' fu', LogP w' B P' d f s' fu' v l' n ∧ s'.size = s.size ∧ s'.now.length = s.now.length ∧ (c ≠ 0 → fu' = fu) ∧ (∀ k, P' k → P k ∨ w.heap.size ≤ k) ∧ Kept (fun k => P k ∨ k = v) w w'

theorem lappend (t : ByteArray) (hts : t.size ≤ maxLen) (h : LogP w B P d f s fu v l n) (hn : n < 800000) (hB : B ≤ w.heap.size) :
    Calls Try.prog 15 #[.pointer (some ⟨v, 0, none⟩), .string t] w (LogQ w B P d f s fu v (alog s l t) (n + 2) (acode s l t)) := by
  have hcnt := h.cnt
  have hl := h.log
  have hfl := hl.flushed
  refine (pappend_W t hts h.wal hl.big hl.len hl.area hl.gen1 (by omega) (by rw [hfl]; decide) hB).mono ?_
  rintro e w' ⟨rfl, P', hw, hp, hk⟩
  have hw0 := hl.whole
  unfold acode alog
  by_cases h1 : s.size < t.size + 14
  · have e : appendR s fu l t = (5, s, fu, l) := by unfold appendR; rw [hw0, if_neg (by simp), if_pos h1]
    rw [e] at hw ⊢
    rw [if_pos h1, if_pos h1]
    exact ⟨rfl, P', s, fu, ⟨hw, hl, h.free, by omega⟩, rfl, rfl, fun _ => rfl, hp, hk⟩
  · rw [if_neg h1, if_neg h1]
    by_cases h2 : s.half ≤ l.list.length + 1
    · have e : appendR s fu l t = (3, s, fu, l) := by unfold appendR; rw [hw0, if_neg (by simp), if_neg h1, if_pos h2]
      rw [e] at hw ⊢
      rw [if_pos h2, if_pos h2]
      exact ⟨rfl, P', s, fu, ⟨hw, hl, h.free, by omega⟩, rfl, rfl, fun _ => rfl, hp, hk⟩
    · rw [if_neg h2, if_neg h2]
      obtain ⟨ho, hf2⟩ := free_lay h.free
      obtain ⟨e, hL⟩ := append_log hl ho t (by omega) (by omega)
      obtain ⟨k1, k2⟩ := layS_len s fu (l.area * s.half + (l.list.length + 1)) (secB l.gen (l.list.length + 1) t s.size)
      rw [e] at hw ⊢
      exact ⟨rfl, P', _, layF fu, ⟨hw, hL, hf2, by have := layF_count fu; omega⟩, k2, k1, fun h => absurd rfl h, hp, hk⟩

theorem lcheck (t : ByteArray) (hts : t.size ≤ maxLen) (h : LogP w B P d f s fu v l n) (hn : n < 700000) (hB : B ≤ w.heap.size) :
    Calls Try.prog 17 #[.pointer (some ⟨v, 0, none⟩), .string t] w (LogQ w B P d f s fu v (clog s l t) (n + 4) (ccode s l t)) := by
  have hcnt := h.cnt
  have hl := h.log
  have hfl := hl.flushed
  refine (pcheck_W t hts h.wal hl.big hl.area hl.gen1 (by omega) (by rw [hfl]; decide) hB).mono ?_
  rintro e w' ⟨rfl, P', hw, hp, hk⟩
  have hw0 := hl.whole
  unfold ccode clog
  by_cases h1 : s.size < t.size + 14
  · have e : checkR s fu l t = (5, s, fu, l) := by unfold checkR; rw [hw0, if_neg (by simp), if_pos h1]
    rw [e] at hw ⊢
    rw [if_pos h1, if_pos h1]
    exact ⟨rfl, P', s, fu, ⟨hw, hl, h.free, by omega⟩, rfl, rfl, fun _ => rfl, hp, hk⟩
  · rw [if_neg h1, if_neg h1]
    by_cases h2 : 4294967295 ≤ l.gen
    · have e : checkR s fu l t = (9, s, fu, l) := by unfold checkR; rw [hw0, if_neg (by simp), if_neg h1, if_pos h2]
      rw [e] at hw ⊢
      rw [if_pos h2, if_pos h2]
      exact ⟨rfl, P', s, fu, ⟨hw, hl, h.free, by omega⟩, rfl, rfl, fun _ => rfl, hp, hk⟩
    · rw [if_neg h2, if_neg h2]
      obtain ⟨ho, hf2⟩ := free_lay h.free
      obtain ⟨ho2, hf3⟩ := free_lay hf2
      obtain ⟨s', e, hL⟩ := check_log hl ho ho2 t (by omega) (by omega)
      have e2 := e
      unfold checkR at e2
      rw [hw0, if_neg (by simp), if_neg h1, if_neg h2, if_pos ho] at e2
      have e3 : s' = _ := (congrArg (fun x : Int × Dk × Fu × Lg => x.2.1) e2).symm
      obtain ⟨k1, k2⟩ := layS_len s fu ((1 - l.area) * s.half + 1) (secB (l.gen + 1) 1 t s.size)
      obtain ⟨k3, k4⟩ := layS_len (layS s fu ((1 - l.area) * s.half + 1) (secB (l.gen + 1) 1 t s.size)) (layF fu) ((1 - l.area) * s.half + 0) (secB (l.gen + 1) 0 headT s.size)
      rw [e] at hw ⊢
      refine ⟨rfl, P', s', layF (layF fu), ⟨hw, hL, hf3, by have := layF_count fu; have := layF_count (layF fu); omega⟩, by rw [e3]; exact k4.trans k2, by rw [e3]; exact k3.trans k1, fun h => absurd rfl h, hp, hk⟩

/-- Opened anew: the same log, beside the elder one. -/
theorem lopen (h : LogP w B P d f s fu v l n) (hn : n < 800000) (hB : B ≤ w.heap.size) :
    Calls Try.prog 13 #[.pointer (some ⟨d, 0, none⟩)] w fun e w' => ∃ P' v' ra rc, e = .returned (.tuple #[.pointer (some ⟨v', 0, none⟩), .slice ra l.list.length rc, .int .i64 0]) ∧ LogP w' B P' d f s fu v' l n ∧ LogP w' B P' d f s fu v l n ∧ Vals w' (.slice ra l.list.length rc) (strs l.list) ∧
      (∀ k, P' k → P k ∨ w.heap.size ≤ k) ∧ (∀ g, (Value.slice ra l.list.length rc).ownBlock = some g → ¬ P' g) ∧ w'.ownsRow w.heap.size 9 1 (.slice ra l.list.length rc) l.list.length (strs l.list) ∧ w.heap.size ≤ v' ∧ Kept P w w' := by
  have hcnt := h.cnt
  have hfl := h.log.flushed
  have hv := h.wal.log.lt
  refine (popen_W h.wal.dsk h.log.big (by rw [hfl]; decide) (by omega) hB).mono ?_
  intro e w' hp
  rw [open_log h.log fu] at hp
  obtain ⟨P', v', ra, rc, rfl, hw, ho, hge, hP, hrow, hk⟩ := hp
  refine ⟨P', v', ra, rc, rfl, ⟨hw, h.log, h.free, h.cnt⟩, ⟨⟨hw.dsk, (hk.block v hv h.wal.pv).trans h.wal.log, new_not hP h.wal.pv hv, h.wal.bv⟩, h.log, h.free, h.cnt⟩, Vals.of_own ho, hP, fun g hg => (hrow g hg).1, ho, hge, hk⟩

/-- A fresh disk is opened: a log with no record. -/
theorem lfresh {z m : Nat} (h : Dsk w B P d f (fresh z m) ⟨false, 0, false, 0⟩) (h1 : 128 ≤ z) (h2 : z ≤ 1024) (h3 : 4 ≤ m) (h4 : m ≤ 1024) (hB : B ≤ w.heap.size) :
    Calls Try.prog 13 #[.pointer (some ⟨d, 0, none⟩)] w fun e w' => ∃ P' v s' fu' ra rc, e = .returned (.tuple #[.pointer (some ⟨v, 0, none⟩), .slice ra 0 rc, .int .i64 0]) ∧ LogP w' B P' d f s' fu' v ⟨0, 1, [], false⟩ 2 ∧ s'.size = z ∧ s'.now.length = m ∧ Below B w w' := by
  obtain ⟨ho, hf2⟩ := free_lay (fu := ⟨false, 0, false, 0⟩) rfl
  obtain ⟨s', e1, hL, hz, hm⟩ := fresh_log z m h1 h2 h3 h4 ho
  refine (popen_W h ⟨h1, by simp [fresh]; omega⟩ (by show (0 : Nat) < 800000; omega) (by show (0 : Int) < 800000; omega) hB).mono ?_
  intro e w' hp
  rw [e1] at hp
  obtain ⟨P', v', ra, rc, rfl, hw, ho, hge, hP, hrow, hk⟩ := hp
  exact ⟨P', v', s', _, ra, rc, rfl, ⟨hw, hL, hf2, by have := layF_count ⟨false, 0, false, 0⟩; simp at this; simp; omega⟩, hz, hm, hk.below (fun k hp => (h.lt k hp).1) hB⟩
theorem lroom (h : LogP w B P d f s fu v l n) : Calls Try.prog 24 #[.pointer (some ⟨v, 0, none⟩)] w fun e w' => e = .returned (.int .i64 ((s.half : Int) - 1 - (l.list.length : Int))) ∧ Alike w' w := by
  have := h.half
  refine (proom_any h.wal (by omega)).mono ?_
  rintro e w' ⟨rfl, n, rfl⟩
  exact ⟨rfl, Alike.drewN _ _⟩
theorem new_good : (⟨false, 0, false, 0⟩ : Fu).Good := ⟨fun h => (by cases h), fun h => (by cases h), by decide⟩
end Go.Proofs.Ytooikkjgcpngdaa
