/-
  The document's own disk: how it lies in memory, and its small functions.
-/
import Derived.Test.YtooikkjgcpngdaaDiskE
import Derived.Laws.AppendOwnNone
namespace Go.Proofs.Ytooikkjgcpngdaa
open Go.RowKit

variable {P Q R : Nat → Prop} {w w' : World} {B m g : Nat} {fu : Fu}

/-- The document's fuse: what is left is told only while it is armed. -/
def FzR (w : World) (g : Nat) (u : Fu) : Prop := ∃ l, Fz w g 28 ⟨u.armed, l, u.blown, u.count⟩ ∧ (u.armed = true → l = u.left)
theorem FzR.lt {u : Fu} (h : FzR w g u) : g < w.heap.size := by
  obtain ⟨l, h, _⟩ := h
  exact h.lt
theorem FzR.block {u : Fu} (h : FzR w g u) (hb : w'.heap[g]? = w.heap[g]?) : FzR w' g u := by
  obtain ⟨l, h, k⟩ := h
  exact ⟨l, hb.trans h, k⟩
theorem FzR.type {u : Fu} (h : FzR w g u) : ∃ x, w.heap[g]? = some (.cells x 28 (0, 0)) := by
  obtain ⟨l, h, _⟩ := h
  exact ⟨_, h.is⟩
theorem FzR.c2 {u : Fu} (h : FzR w g u) : w.cell? ⟨g, 2, none⟩ = some (.bool u.blown) := by
  obtain ⟨l, h, _⟩ := h
  exact h.c2
theorem FzR.c3 {u : Fu} (h : FzR w g u) : w.cell? ⟨g, 3, none⟩ = some (.int .i64 u.count) := by
  obtain ⟨l, h, _⟩ := h
  exact h.c3
theorem mspend_yes {u : Fu} (h : FzR w g u) (hg : u.Good) (hc : u.count < 1000000) (ho : u.ok = true) : Calls Try.prog 58 #[.pointer (some ⟨g, 0, none⟩)] w fun e w' => e = .returned (.bool true) ∧ FzR w' g u.spent ∧ Only g w w' := by
  obtain ⟨a, l, b, c⟩ := u
  obtain ⟨l', h, hl⟩ := h
  have e : (Fu.mk a l b c).spent = ⟨a, if a then l - 1 else l, b, c + 1⟩ := by simp [Fu.spent, ho]
  rw [e]
  cases a with
  | false =>
    obtain rfl : b = false := by
      cases b with
      | false => rfl
      | true => have := (hg.blown rfl).1; cases this
    refine (mspend_free g l' c w hg.count hc h).mono ?_
    rintro e w' ⟨rfl, hz, hon⟩
    exact ⟨rfl, ⟨l', hz, fun h => by cases h⟩, hon⟩
  | true =>
    obtain rfl : l' = l := hl rfl
    have hl0 : l' ≠ 0 := by
      intro hl
      simp [Fu.ok, hl] at ho
    obtain rfl : b = false := by
      cases b with
      | false => rfl
      | true => exact absurd (hg.blown rfl).2 hl0
    have h1 := hg.left rfl
    refine (mspend_some g l' c w (by simp at h1; omega) h1.2 hg.count hc h).mono ?_
    rintro e w' ⟨rfl, hz, hon⟩
    exact ⟨rfl, ⟨l' - 1, hz, fun _ => rfl⟩, hon⟩
theorem mspend_nay {u : Fu} (h : FzR w g u) (ho : u.ok = false) : Calls Try.prog 58 #[.pointer (some ⟨g, 0, none⟩)] w fun e w' => e = .returned (.bool false) ∧ FzR w' g u.spent ∧ Only g w w' := by
  obtain ⟨a, l, b, c⟩ := u
  obtain ⟨l', h, hl⟩ := h
  have e : (Fu.mk a l b c).spent = ⟨a, l, true, c⟩ := by simp [Fu.spent, ho]
  rw [e]
  simp [Fu.ok] at ho
  obtain ⟨rfl, rfl⟩ := ho
  obtain rfl : l' = 0 := hl rfl
  refine (mspend_no g b c w h).mono ?_
  rintro e w' ⟨rfl, hz, hon⟩
  exact ⟨rfl, ⟨0, hz, fun _ => rfl⟩, hon⟩
theorem mreset_R {u : Fu} (h : FzR w g u) : Calls Try.prog 48 #[.pointer (some ⟨g, 0, none⟩)] w fun e w' => e = .returned (.tuple #[]) ∧ FzR w' g u.reset ∧ Only g w w' := by
  obtain ⟨l', h, hl⟩ := h
  refine (mreset_any g _ w h).mono ?_
  rintro e w' ⟨rfl, hz, hon⟩
  exact ⟨rfl, ⟨l', hz, fun h => by cases h⟩, hon⟩
theorem marm_R {u : Fu} (n : Int) (h : FzR w g u) : Calls Try.prog 20 #[.pointer (some ⟨g, 0, none⟩), .int .i64 n] w fun e w' => e = .returned (.tuple #[]) ∧ FzR w' g (u.arm n) ∧ Only g w w' := by
  obtain ⟨l', h, hl⟩ := h
  refine (marm_any g n _ w h).mono ?_
  rintro e w' ⟨rfl, hz, hon⟩
  exact ⟨rfl, ⟨_, hz, fun _ => rfl⟩, hon⟩

def ints (l : List Nat) : List Value := l.map fun n : Nat => Value.int .i64 (n : Int)
theorem ints_len (l : List Nat) : (ints l).length = l.length := List.length_map _
theorem ints_one (l : List Nat) : ∀ u ∈ ints l, u.oneCell' = true := by
  intro u hu
  obtain ⟨x, _, rfl⟩ := List.mem_map.1 hu
  rfl

/-- The document's disk m, of fuse g. All its blocks are of R. -/
structure InvR (w : World) (B : Nat) (R : Nat → Prop) (m g : Nat) (fu : Fu) (size : Nat) (last now : List ByteArray) (wl : List Nat) (hl : List ByteArray) (lv nv wv hv : Value) : Prop where
  hm : w.heap[m]? = some (.cells #[.int .i64 (size : Int), lv, nv, wv, hv, .pointer (some ⟨g, 0, none⟩)] 66 (0, 0))
  ol : w.ownsRow B 9 1 lv last.length (strs last)
  on : w.ownsRow B 9 1 nv now.length (strs now)
  ow : w.ownsRow B 3 1 wv wl.length (ints wl)
  oh : w.ownsRow B 9 1 hv hl.length (strs hl)
  hf : FzR w g fu
  rm : R m
  rg : R g
  rl : ∀ k, lv.ownBlock = some k → R k
  rn : ∀ k, nv.ownBlock = some k → R k
  rw' : ∀ k, wv.ownBlock = some k → R k
  rh : ∀ k, hv.ownBlock = some k → R k
  lt : ∀ k, R k → B ≤ k ∧ k < w.heap.size

variable {size : Nat} {last now : List ByteArray} {wl : List Nat} {hl : List ByteArray} {lv nv wv hv : Value}
theorem InvR.c0 (h : InvR w B R m g fu size last now wl hl lv nv wv hv) : w.cell? ⟨m, 0, none⟩ = some (.int .i64 (size : Int)) := by rw [cell_of_row w m 0 _ _ _ h.hm]; rfl
theorem InvR.c1 (h : InvR w B R m g fu size last now wl hl lv nv wv hv) : w.cell? ⟨m, 1, none⟩ = some lv := by rw [cell_of_row w m 1 _ _ _ h.hm]; rfl
theorem InvR.c2 (h : InvR w B R m g fu size last now wl hl lv nv wv hv) : w.cell? ⟨m, 2, none⟩ = some nv := by rw [cell_of_row w m 2 _ _ _ h.hm]; rfl
theorem InvR.c3 (h : InvR w B R m g fu size last now wl hl lv nv wv hv) : w.cell? ⟨m, 3, none⟩ = some wv := by rw [cell_of_row w m 3 _ _ _ h.hm]; rfl
theorem InvR.c4 (h : InvR w B R m g fu size last now wl hl lv nv wv hv) : w.cell? ⟨m, 4, none⟩ = some hv := by rw [cell_of_row w m 4 _ _ _ h.hm]; rfl
theorem InvR.c5 (h : InvR w B R m g fu size last now wl hl lv nv wv hv) : w.cell? ⟨m, 5, none⟩ = some (.pointer (some ⟨g, 0, none⟩)) := by rw [cell_of_row w m 5 _ _ _ h.hm]; rfl
theorem InvR.fr (h : InvR w B R m g fu size last now wl hl lv nv wv hv) (i : Nat) : w.frozen? ⟨m, i, none⟩ = false := by
  have := h.hm
  simp [World.frozen?, this]

theorem InvR.stays (h : InvR w B R m g fu size last now wl hl lv nv wv hv) (hs : w.heap.size ≤ w'.heap.size) (hb : ∀ k, R k → w'.heap[k]? = w.heap[k]?) : InvR w' B R m g fu size last now wl hl lv nv wv hv where
  hm := (hb m h.rm).trans h.hm
  ol := own_other h.ol fun k hk => hb k (h.rl k hk)
  on := own_other h.on fun k hk => hb k (h.rn k hk)
  ow := own_other h.ow fun k hk => hb k (h.rw' k hk)
  oh := own_other h.oh fun k hk => hb k (h.rh k hk)
  hf := h.hf.block (hb g h.rg)
  rm := h.rm
  rg := h.rg
  rl := h.rl
  rn := h.rn
  rw' := h.rw'
  rh := h.rh
  lt := fun k hk => ⟨(h.lt k hk).1, Nat.lt_of_lt_of_le (h.lt k hk).2 hs⟩
theorem InvR.kept (h : InvR w B R m g fu size last now wl hl lv nv wv hv) (hk : Kept Q w w') (hq : ∀ k, R k → ¬ Q k) : InvR w' B R m g fu size last now wl hl lv nv wv hv :=
  h.stays hk.size fun k hp => hk.block k (h.lt k hp).2 (hq k hp)
theorem InvR.under (h : InvR w B R m g fu size last now wl hl lv nv wv hv) (hk : Below w.heap.size w w') : InvR w' B R m g fu size last now wl hl lv nv wv hv :=
  h.stays hk.size fun k hp => hk.block k (h.lt k hp).2
theorem InvR.alloc (h : InvR w B R m g fu size last now wl hl lv nv wv hv) (o : Obj) : InvR (w.alloc o) B R m g fu size last now wl hl lv nv wv hv :=
  h.stays (by simp) fun k hp => Below.heap_alloc w o k (h.lt k hp).2
theorem InvR.drew (h : InvR w B R m g fu size last now wl hl lv nv wv hv) : InvR w.drew B R m g fu size last now wl hl lv nv wv hv := h.stays (Nat.le_refl _) fun _ _ => rfl
theorem InvR.drewN (h : InvR w B R m g fu size last now wl hl lv nv wv hv) (n : Nat) : InvR (w.drewN n) B R m g fu size last now wl hl lv nv wv hv := h.stays (Nat.le_refl _) fun _ _ => rfl
theorem InvR.mono (h : InvR w B R m g fu size last now wl hl lv nv wv hv) (hP : ∀ k, R k → Q k) (hQ : ∀ k, Q k → B ≤ k ∧ k < w.heap.size) : InvR w B Q m g fu size last now wl hl lv nv wv hv :=
  ⟨h.hm, h.ol, h.on, h.ow, h.oh, h.hf, hP _ h.rm, hP _ h.rg, fun k hk => hP _ (h.rl k hk), fun k hk => hP _ (h.rn k hk), fun k hk => hP _ (h.rw' k hk), fun k hk => hP _ (h.rh k hk), hQ⟩

theorem own_type {e : TypeId} {sz n : Nat} {v : Value} {xs : List Value} (h : w.ownsRow B e sz v n xs) {k : Nat} (hk : v.ownBlock = some k) : ∃ cur, w.heap[k]? = some (.cells cur e (0, 0)) := by
  rcases h.2 with ⟨hv, _⟩ | ⟨g', cap, cur, hv, _, hh, _⟩
  · rw [hv] at hk; cases hk
  · rw [hv] at hk
    obtain rfl : g' = k := by simpa [Value.ownBlock] using hk
    exact ⟨cur, hh⟩
/-- A store into the head leaves the rows as they are. -/
theorem own_set {e : TypeId} {n i : Nat} {v u : Value} {xs : List Value} {x : Array Value} (hm : w.heap[m]? = some (.cells x 66 (0, 0))) (h : w.ownsRow B e 1 v n xs) (he : e ≠ 66) : (w.setCell ⟨m, i, none⟩ u).ownsRow B e 1 v n xs :=
  own_other h fun k hk => by
    obtain ⟨cur, hc⟩ := own_type h hk
    exact Below.heap_setCell w ⟨m, i, none⟩ _ k (ne_of_type hc hm he)
theorem FzR.set {i : Nat} {u : Value} {x : Array Value} (hm : w.heap[m]? = some (.cells x 66 (0, 0))) (h : FzR w g fu) : FzR (w.setCell ⟨m, i, none⟩ u) g fu := by
  obtain ⟨y, hy⟩ := h.type
  exact h.block (Below.heap_setCell w ⟨m, i, none⟩ _ g (ne_of_type hy hm (by decide)))

theorem InvR.set1 (h : InvR w B R m g fu size last now wl hl lv nv wv hv) (v : Value) (l : List ByteArray) (hv' : w.ownsRow B 9 1 v l.length (strs l)) (hr : ∀ k, v.ownBlock = some k → R k) : InvR (w.setCell ⟨m, 1, none⟩ v) B R m g fu size l now wl hl v nv wv hv :=
  ⟨by have := h.hm; simp [World.setCell, Array.getElem?_modify, this], own_set h.hm hv' (by decide), own_set h.hm h.on (by decide), own_set h.hm h.ow (by decide), own_set h.hm h.oh (by decide), h.hf.set h.hm, h.rm, h.rg, hr, h.rn, h.rw', h.rh, fun k hk => by simpa [World.setCell] using h.lt k hk⟩
theorem InvR.set2 (h : InvR w B R m g fu size last now wl hl lv nv wv hv) (v : Value) (l : List ByteArray) (hv' : w.ownsRow B 9 1 v l.length (strs l)) (hr : ∀ k, v.ownBlock = some k → R k) : InvR (w.setCell ⟨m, 2, none⟩ v) B R m g fu size last l wl hl lv v wv hv :=
  ⟨by have := h.hm; simp [World.setCell, Array.getElem?_modify, this], own_set h.hm h.ol (by decide), own_set h.hm hv' (by decide), own_set h.hm h.ow (by decide), own_set h.hm h.oh (by decide), h.hf.set h.hm, h.rm, h.rg, h.rl, hr, h.rw', h.rh, fun k hk => by simpa [World.setCell] using h.lt k hk⟩
theorem InvR.set3 (h : InvR w B R m g fu size last now wl hl lv nv wv hv) (v : Value) (l : List Nat) (hv' : w.ownsRow B 3 1 v l.length (ints l)) (hr : ∀ k, v.ownBlock = some k → R k) : InvR (w.setCell ⟨m, 3, none⟩ v) B R m g fu size last now l hl lv nv v hv :=
  ⟨by have := h.hm; simp [World.setCell, Array.getElem?_modify, this], own_set h.hm h.ol (by decide), own_set h.hm h.on (by decide), own_set h.hm hv' (by decide), own_set h.hm h.oh (by decide), h.hf.set h.hm, h.rm, h.rg, h.rl, h.rn, hr, h.rh, fun k hk => by simpa [World.setCell] using h.lt k hk⟩
theorem InvR.set4 (h : InvR w B R m g fu size last now wl hl lv nv wv hv) (v : Value) (l : List ByteArray) (hv' : w.ownsRow B 9 1 v l.length (strs l)) (hr : ∀ k, v.ownBlock = some k → R k) : InvR (w.setCell ⟨m, 4, none⟩ v) B R m g fu size last now wl l lv nv wv v :=
  ⟨by have := h.hm; simp [World.setCell, Array.getElem?_modify, this], own_set h.hm h.ol (by decide), own_set h.hm h.on (by decide), own_set h.hm h.ow (by decide), own_set h.hm hv' (by decide), h.hf.set h.hm, h.rm, h.rg, h.rl, h.rn, h.rw', hr, fun k hk => by simpa [World.setCell] using h.lt k hk⟩
theorem InvR.fuse (h : InvR w B R m g fu size last now wl hl lv nv wv hv) {fu' : Fu} (hz : FzR w' g fu') (ho : Only g w w') : InvR w' B R m g fu' size last now wl hl lv nv wv hv := by
  obtain ⟨y, hy⟩ := h.hf.type
  have key : ∀ {e : TypeId} {n : Nat} {v : Value} {xs : List Value}, w.ownsRow B e 1 v n xs → e ≠ 28 → w'.ownsRow B e 1 v n xs := fun {e n v xs} h he =>
    own_other h fun k hk => by
      obtain ⟨cur, hc⟩ := own_type h hk
      exact ho.block k (ne_of_type hc hy he)
  exact ⟨(ho.block m (ne_of_type h.hm hy (by decide))).trans h.hm, key h.ol (by decide), key h.on (by decide), key h.ow (by decide), key h.oh (by decide), hz, h.rm, h.rg, h.rl, h.rn, h.rw', h.rh, fun k hk => by rw [ho.size]; exact h.lt k hk⟩

/-! Small functions. -/
set_option maxHeartbeats 400000 in
theorem clamp_nat (n lo hi : Int) (z : Nat) (h : (z : Int) = min (max n lo) hi) (hlh : lo ≤ hi) (w : World) : Calls Try.prog 32 #[.int .i64 n, .int .i64 lo, .int .i64 hi] w fun e w' => e = .returned (.int .i64 (z : Int)) ∧ w = w' := by
  have HH := Lib.hid h
  clear h
  by_cases h1 : n < lo
  · have e1 : decide (n < lo) = true := by simpa using h1
    go_enter Try.func32, Try.ntmps32
    go_wp2
    go_ret
    exact ⟨by rw [show (z : Int) = lo by have := HH.out; omega]; rfl, rfl⟩
  · have e1 : decide (n < lo) = false := by simpa using h1
    by_cases h2 : hi < n
    · have e2 : decide (hi < n) = true := by simpa using h2
      go_enter Try.func32, Try.ntmps32
      go_wp2
      go_ret
      exact ⟨by rw [show (z : Int) = hi by have := HH.out; omega]; rfl, rfl⟩
    · have e2 : decide (hi < n) = false := by simpa using h2
      go_enter Try.func32, Try.ntmps32
      go_wp2
      go_ret
      exact ⟨by rw [show (z : Int) = n by have := HH.out; omega]; rfl, rfl⟩

/-- A row that is not empty: where it lies. -/
theorem own_form {e : TypeId} {n : Nat} {v : Value} {xs : List Value} (h : w.ownsRow B e 1 v n xs) (hn : 0 < n) : ∃ k cap, v = .slice (some ⟨k, 0, none⟩) n cap := by
  rcases h.2 with ⟨_, h0⟩ | ⟨k, cap, cur, hv, _⟩
  · omega
  · exact ⟨k, cap, hv⟩
theorem own_shape {e : TypeId} {n : Nat} {v : Value} {xs : List Value} (h : w.ownsRow B e 1 v n xs) : ∃ a cap, v = .slice a n cap := by
  rcases h.2 with ⟨hv, h0⟩ | ⟨k, cap, cur, hv, _⟩
  · exact ⟨none, 0, by rw [hv, h0]⟩
  · exact ⟨_, cap, hv⟩
theorem own_str {n k cap i : Nat} {ss : List ByteArray} (h : w.ownsRow B 9 1 (.slice (some ⟨k, 0, none⟩) n cap) n (strs ss)) (hn : n = ss.length) (hi : i < n) : w.cell? ⟨k, i, none⟩ = some (.string (ss.getD i nil)) := by
  rw [h.cellAt i (by omega)]
  subst hn
  simp [strs, hi]
theorem own_int {n k cap i : Nat} {l : List Nat} (h : w.ownsRow B 3 1 (.slice (some ⟨k, 0, none⟩) n cap) n (ints l)) (hn : n = l.length) (hi : i < n) : w.cell? ⟨k, i, none⟩ = some (.int .i64 (l.getD i 0 : Int)) := by
  rw [h.cellAt i (by omega)]
  subst hn
  simp [ints, hi]

theorem Tinfo3 : (Try.prog.info? 3).map (fun i => (i.zero, i.size, i.bytes)) = some (some (.int .i64 0), 1, 8) := by kernel_rfl

/-- The cells of a row, as a source. -/
theorem own_src {e : TypeId} {n k cap : Nat} {xs : List Value} (h : w.ownsRow B e 1 (.slice (some ⟨k, 0, none⟩) n cap) n xs) : ∀ j u, xs[j]? = some u → w.cell? ((⟨k, 0, none⟩ : Addr).add j) = some u :=
  h.cells rfl

set_option maxHeartbeats 1000000 in
theorem set_any (i : Nat) (x : ByteArray) {v : Value} {ss : List ByteArray} (h : w.ownsRow B 9 1 v ss.length (strs ss)) (hi : i < ss.length) (hl : ss.length ≤ 1024) (hB : B ≤ w.heap.size) :
    Calls Try.prog 47 #[v, .int .i64 (i : Int), .string x] w fun e w' => ∃ v', e = .returned v' ∧ w'.ownsRow B 9 1 v' (ss.set i x).length (strs (ss.set i x)) ∧ (∀ k, v'.ownBlock = some k → w.heap.size ≤ k ∧ k < w'.heap.size) ∧ Below w.heap.size w w' := by
  obtain ⟨i0, hi0, hz0, hz1, hz2⟩ := info_parts Tinfo9
  obtain ⟨k, cap, rfl⟩ := own_form h (by omega)
  have HO := Lib.hid h
  have hlt : (i : Int) < (ss.length : Int) := by omega
  clear h
  go_enter Try.func47, Try.ntmps47
  go_wp2_with (at_builtin; go_must (refine wpList_append_lies _ rfl _ _ 36 rfl B 9 i0 (.string ⟨#[]⟩) 1 16 Try.underlying36 hi0 hz0 hz1 hz2 rfl (by decide) (.slice (some ⟨w.heap.size, 0, none⟩) 0 0) 0 [] rfl (World.ownsRow_made w #[] 0 hB (Nat.zero_le _) rfl) ⟨k, 0, none⟩ ss.length cap (strs ss) rfl (by rw [strs_len, Nat.mul_one]) (own_src (HO.out.alloc _)) (strs_one ss) (by omega) (by unfold maxLen; omega) (by omega) (by simp; omega) _ rfl ?_); intro g2 cap2 w3 hown hgr hor hlt3; rw [Nat.zero_add] at hown ⊢; rw [List.nil_append] at hown; have q1 := own_str hown rfl hi; have q2 := hown.frozenAt i)
  go_ret
  have hk : w.heap.size ≤ g2 := by
    rcases hor with h1 | h1
    · obtain rfl : w.heap.size = g2 := by simpa [Value.ownBlock] using h1
      exact Nat.le_refl _
    · simp at h1; omega
  obtain ⟨s1, s2⟩ := hown.stored i (.string x)
  have hb3 : Below w.heap.size w w3 := ((Below.refl _ w).alloc (Nat.le_refl _) _).grown hgr (by simp) (fun k hk => by
    obtain rfl : w.heap.size = k := by simpa [Value.ownBlock] using hk
    exact Nat.le_refl _)
  refine ⟨_, rfl, ?_, ?_, hb3.setCell hk _⟩
  · rw [List.length_set]
    have e : (strs ss).set i (.string x) = strs (ss.set i x) := by simp [strs, List.map_set]
    rw [← e]
    exact s1
  · intro k hk'
    obtain rfl : g2 = k := by simpa [Value.ownBlock] using hk'
    exact ⟨hk, by simpa [World.setCell] using hlt3⟩
end Go.Proofs.Ytooikkjgcpngdaa
