/-
  A log as the laws see it: sizes and records alone; awake.
-/
import Derived.Test.YtooikkjgcpngdaaWalJ
namespace Go.Proofs.Ytooikkjgcpngdaa
open Go.RowKit
open Fr (Rec secB valL lenV)

variable {P Q U : Nat → Prop} {w w' : World} {B d f v n z m : Nat} {fu : Fu} {s : Dk} {l : Lg}

/-- A log v of the disk d with m sectors of z bytes, flushed; the fuse f isn't armed. U: its blocks and the disk's. -/
def St (w : World) (B : Nat) (U : Nat → Prop) (d f v z m : Nat) (l : Lg) (n : Nat) : Prop :=
  ∃ P s fu, LogP w B P d f s fu v l n ∧ (∀ k, P k → U k) ∧ U v ∧ s.size = z ∧ s.now.length = m ∧ (∀ k, U k → B ≤ k ∧ k < w.heap.size)
theorem St.stays (h : St w B U d f v z m l n) (hs : w.heap.size ≤ w'.heap.size) (hb : ∀ k, U k → k < w.heap.size → w'.heap[k]? = w.heap[k]?) : St w' B U d f v z m l n := by
  obtain ⟨P, s, fu, h1, h2, h3, h4, h5, h6⟩ := h
  exact ⟨P, s, fu, h1.stays hs (fun k hk => hb k (hk.elim (h2 k) (fun e => by rw [e]; exact h3)) (h1.wal.lt k hk).2), h2, h3, h4, h5, fun k hk => ⟨(h6 k hk).1, Nat.lt_of_lt_of_le (h6 k hk).2 hs⟩⟩
theorem St.under (h : St w B U d f v z m l n) (hb : Below w.heap.size w w') : St w' B U d f v z m l n := h.stays hb.size fun k _ hk => hb.block k hk
theorem St.alike (h : St w B U d f v z m l n) (hb : Alike w' w) : St w' B U d f v z m l n := h.stays (by rw [hb.2.2.2]; exact Nat.le_refl _) fun k _ _ => by rw [hb.2.2.2]
theorem St.kept (h : St w B U d f v z m l n) (hk : Kept Q w w') (hq : ∀ k, U k → ¬ Q k) : St w' B U d f v z m l n := h.stays hk.size fun k hu hlt => hk.block k hlt (hq k hu)
theorem St.more (h : St w B U d f v z m l n) {n' : Nat} (hn : n ≤ n') : St w B U d f v z m l n' := by
  obtain ⟨P, s, fu, h1, h2⟩ := h
  exact ⟨P, s, fu, ⟨h1.wal, h1.log, h1.free, by have := h1.cnt; omega⟩, h2⟩
theorem St.len (h : St w B U d f v z m l n) : l.list.length + 1 ≤ m / 2 ∧ m / 2 ≤ 512 ∧ 128 ≤ z ∧ z ≤ 1024 ∧ 4 ≤ m ∧ m ≤ 1024 := by
  obtain ⟨P, s, fu, h1, _, _, hz, hm, _⟩ := h
  have h3 := h1.half
  have h4 := h1.log.big
  have h5 := h1.log.good
  have h6 := h4.size
  have h7 := h4.len
  have h8 := h5.sz
  have h9 := h5.n1
  unfold Dk.half at h3
  omega
theorem St.lt (h : St w B U d f v z m l n) : ∀ k, U k → B ≤ k ∧ k < w.heap.size := by
  obtain ⟨P, s, fu, h1, h2, h3, h4, h5, h6⟩ := h
  exact h6
theorem St.gens (h : St w B U d f v z m l n) : 1 ≤ l.gen ∧ l.gen < 4294967296 ∧ l.broken = false ∧ l.area ≤ 1 := by
  obtain ⟨P, s, fu, h1, _⟩ := h
  exact ⟨h1.log.gen0, h1.log.gen1, h1.log.whole, h1.log.area⟩

def acodeZ (z m : Nat) (l : Lg) (t : ByteArray) : Int := if z < t.size + 14 then 5 else if m / 2 ≤ l.list.length + 1 then 3 else 0
def alogZ (z m : Nat) (l : Lg) (t : ByteArray) : Lg := if z < t.size + 14 then l else if m / 2 ≤ l.list.length + 1 then l else { l with list := l.list ++ [t] }
def ccodeZ (z : Nat) (l : Lg) (t : ByteArray) : Int := if z < t.size + 14 then 5 else if 4294967295 ≤ l.gen then 9 else 0
def clogZ (z : Nat) (l : Lg) (t : ByteArray) : Lg := if z < t.size + 14 then l else if 4294967295 ≤ l.gen then l else ⟨1 - l.area, l.gen + 1, [t], false⟩
/-- What a call leaves. -/
def StQ (w : World) (B : Nat) (U : Nat → Prop) (d f v z m : Nat) (l' : Lg) (n : Nat) (c : Int) (e : Ending) (w' : World) : Prop :=
  e = .returned (.int .i64 c) ∧ ∃ U', St w' B U' d f v z m l' n ∧ (∀ k, U' k → U k ∨ w.heap.size ≤ k) ∧ Kept U w w'
theorem st_of_log {l' : Lg} {n' : Nat} {c : Int} {e : Ending} (hU : ∀ k, P k → U k) (hv : U v) (h : LogQ w B P d f s fu v l' n' c e w') : StQ w B U d f v s.size s.now.length l' n' c e w' := by
  obtain ⟨rfl, P', s', fu', h1, h2, h3, _, h5, h6⟩ := h
  refine ⟨rfl, fun k => P' k ∨ k = v, ⟨P', s', fu', h1, fun k hk => .inl hk, .inr rfl, h2, h3, fun k hk => h1.wal.lt k hk⟩, fun k hk => hk.elim (fun h => (h5 k h).imp (hU k) id) (fun h => .inl (by rw [h]; exact hv)), ⟨h6.os, h6.tape, h6.output, h6.size, fun k hk hn => h6.block k hk (fun h => hn (h.elim (hU k) (fun h => by rw [h]; exact hv)))⟩⟩
theorem st_append (t : ByteArray) (hts : t.size ≤ maxLen) (h : St w B U d f v z m l n) (hn : n < 800000) (hB : B ≤ w.heap.size) :
    Calls Try.prog 15 #[.pointer (some ⟨v, 0, none⟩), .string t] w (StQ w B U d f v z m (alogZ z m l t) (n + 2) (acodeZ z m l t)) := by
  obtain ⟨P, s, fu, h1, h2, h3, rfl, rfl, _⟩ := h
  exact (lappend t hts h1 hn hB).mono fun e w' hq => st_of_log h2 h3 hq
theorem st_check (t : ByteArray) (hts : t.size ≤ maxLen) (h : St w B U d f v z m l n) (hn : n < 700000) (hB : B ≤ w.heap.size) :
    Calls Try.prog 17 #[.pointer (some ⟨v, 0, none⟩), .string t] w (StQ w B U d f v z m (clogZ z l t) (n + 4) (ccodeZ z l t)) := by
  obtain ⟨P, s, fu, h1, h2, h3, rfl, rfl, _⟩ := h
  exact (lcheck t hts h1 hn hB).mono fun e w' hq => st_of_log h2 h3 hq
theorem st_room (h : St w B U d f v z m l n) : Calls Try.prog 24 #[.pointer (some ⟨v, 0, none⟩)] w fun e w' => e = .returned (.int .i64 (((m / 2 : Nat) : Int) - 1 - (l.list.length : Int))) ∧ Alike w' w := by
  obtain ⟨P, s, fu, h1, h2, h3, rfl, rfl, _⟩ := h
  exact lroom h1
theorem st_gen (h : St w B U d f v z m l n) : Calls Try.prog 26 #[.pointer (some ⟨v, 0, none⟩)] w fun e w' => e = .returned (.int .i64 (l.gen : Int)) ∧ w = w' := by
  obtain ⟨P, s, fu, h1, _⟩ := h
  exact gen_any h1.wal
theorem st_broken (h : St w B U d f v z m l n) : Calls Try.prog 27 #[.pointer (some ⟨v, 0, none⟩)] w fun e w' => e = .returned (.bool false) ∧ w = w' := by
  obtain ⟨P, s, fu, h1, _⟩ := h
  have := broken_any h1.wal
  rw [h1.log.whole] at this
  exact this
theorem st_len (h : St w B U d f v z m l n) : Calls Try.prog 28 #[.pointer (some ⟨d, 0, none⟩)] w fun e w' => e = .returned (.int .i64 (m : Int)) ∧ w = w' := by
  obtain ⟨P, s, fu, h1, _, _, _, rfl, _⟩ := h
  exact len_D h1.wal.dsk
theorem st_open (h : St w B U d f v z m l n) (hn : n < 800000) (hB : B ≤ w.heap.size) :
    Calls Try.prog 13 #[.pointer (some ⟨d, 0, none⟩)] w fun e w' => ∃ U' v' ra rc, e = .returned (.tuple #[.pointer (some ⟨v', 0, none⟩), .slice ra l.list.length rc, .int .i64 0]) ∧ St w' B U' d f v' z m l n ∧ St w' B U' d f v z m l n ∧ w'.ownsRow w.heap.size 9 1 (.slice ra l.list.length rc) l.list.length (strs l.list) ∧
      (∀ k, U' k → U k ∨ w.heap.size ≤ k) ∧ (∀ g, (Value.slice ra l.list.length rc).ownBlock = some g → ¬ U' g) ∧ Kept U w w' := by
  obtain ⟨P, s, fu, h1, h2, h3, rfl, rfl, _⟩ := h
  have hv := h1.wal.log.lt
  refine (lopen h1 hn hB).mono ?_
  rintro e w' ⟨P', v', ra, rc, rfl, g1, g2, _, g4, g5, g6, g7, g8⟩
  have ht := g1.wal.log
  have hU : ∀ k, (P' k ∨ k = v ∨ k = v') → B ≤ k ∧ k < w'.heap.size := by
    rintro k (hk | hk | hk)
    · exact g1.wal.lt k (.inl hk)
    · exact g2.wal.lt k (.inr hk)
    · exact g1.wal.lt k (.inr hk)
  refine ⟨fun k => P' k ∨ k = v ∨ k = v', v', ra, rc, rfl, ⟨P', s, fu, g1, fun k hk => .inl hk, .inr (.inr rfl), rfl, rfl, hU⟩, ⟨P', s, fu, g2, fun k hk => .inl hk, .inr (.inl rfl), rfl, rfl, hU⟩, g6, ?_, ?_, ⟨g8.os, g8.tape, g8.output, g8.size, fun k hk hn => g8.block k hk (fun h => hn (h2 k h))⟩⟩
  · rintro k (hk | rfl | rfl)
    · exact (g4 k hk).imp (h2 k) id
    · exact .inl h3
    · exact .inr g7
  · intro g hg hu
    rcases hu with hp | rfl | rfl
    · exact g5 g hg hp
    · have := own_base g6 hg; omega
    · obtain ⟨cur, hc⟩ := own_type g6 hg
      exact ne_of_type hc ht (by decide) rfl

theorem st_fresh (h : Dsk w B P d f (fresh z m) ⟨false, 0, false, 0⟩) (h1 : 128 ≤ z) (h2 : z ≤ 1024) (h3 : 4 ≤ m) (h4 : m ≤ 1024) (hB : B ≤ w.heap.size) :
    Calls Try.prog 13 #[.pointer (some ⟨d, 0, none⟩)] w fun e w' => ∃ U v ra rc, e = .returned (.tuple #[.pointer (some ⟨v, 0, none⟩), .slice ra 0 rc, .int .i64 0]) ∧ St w' B U d f v z m ⟨0, 1, [], false⟩ 2 ∧ Below B w w' := by
  refine (lfresh h h1 h2 h3 h4 hB).mono ?_
  rintro e w' ⟨P', v, s', fu', ra, rc, rfl, g1, g2, g3, g4⟩
  exact ⟨fun k => P' k ∨ k = v, v, ra, rc, rfl, ⟨P', s', fu', g1, fun k hk => .inl hk, .inr rfl, g2, g3, fun k hk => g1.wal.lt k hk⟩, g4⟩
/-- All that was there ahead of a law's log is as it was. -/
theorem St.below (h : St w B U d f v z m l n) (hk : Kept U w w') (hB : B ≤ w.heap.size) : Below B w w' := hk.below (fun k hu => (h.lt k hu).1) hB
theorem below_alike {a : World} (h : Below B a w) (hA : Alike w' w) : Below B a w' := ⟨hA.1.trans h.os, hA.2.1.trans h.tape, hA.2.2.1.trans h.output, by rw [hA.2.2.2]; exact h.size, fun k hk => by rw [hA.2.2.2]; exact h.block k hk⟩
theorem acode0 {t : ByteArray} (h1 : t.size + 14 ≤ z) (h2 : l.list.length + 1 < m / 2) : acodeZ z m l t = 0 ∧ alogZ z m l t = { l with list := l.list ++ [t] } := by
  unfold acodeZ alogZ
  rw [if_neg (by omega), if_neg (by omega), if_neg (by omega), if_neg (by omega)]
  exact ⟨rfl, rfl⟩
theorem acode3 {t : ByteArray} (h1 : t.size + 14 ≤ z) (h2 : m / 2 ≤ l.list.length + 1) : acodeZ z m l t = 3 ∧ alogZ z m l t = l := by
  unfold acodeZ alogZ
  rw [if_neg (by omega), if_pos h2, if_neg (by omega), if_pos h2]
  exact ⟨rfl, rfl⟩
theorem acode5 {t : ByteArray} (h1 : z < t.size + 14) : acodeZ z m l t = 5 ∧ alogZ z m l t = l := by
  unfold acodeZ alogZ
  rw [if_pos h1, if_pos h1]
  exact ⟨rfl, rfl⟩
theorem ccode0 {t : ByteArray} (h1 : t.size + 14 ≤ z) (h2 : l.gen < 4294967295) : ccodeZ z l t = 0 ∧ clogZ z l t = ⟨1 - l.area, l.gen + 1, [t], false⟩ := by
  unfold ccodeZ clogZ
  rw [if_neg (by omega), if_neg (by omega), if_neg (by omega), if_neg (by omega)]
  exact ⟨rfl, rfl⟩
theorem ccode5 {t : ByteArray} (h1 : z < t.size + 14) : ccodeZ z l t = 5 ∧ clogZ z l t = l := by
  unfold ccodeZ clogZ
  rw [if_pos h1, if_pos h1]
  exact ⟨rfl, rfl⟩
/-- An append that is told OK. -/
theorem st_app0 (t : ByteArray) (h : St w B U d f v z m l n) (hn : n < 800000) (hB : B ≤ w.heap.size) (h1 : t.size + 14 ≤ z) (h2 : l.list.length + 1 < m / 2) :
    Calls Try.prog 15 #[.pointer (some ⟨v, 0, none⟩), .string t] w (StQ w B U d f v z m { l with list := l.list ++ [t] } (n + 2) 0) := by
  have hz := h.len
  have := st_append t (by unfold maxLen; omega) h hn hB
  rw [(acode0 h1 h2).1, (acode0 h1 h2).2] at this
  exact this
theorem st_app3 (t : ByteArray) (h : St w B U d f v z m l n) (hn : n < 800000) (hB : B ≤ w.heap.size) (h1 : t.size + 14 ≤ z) (h2 : m / 2 ≤ l.list.length + 1) :
    Calls Try.prog 15 #[.pointer (some ⟨v, 0, none⟩), .string t] w (StQ w B U d f v z m l (n + 2) 3) := by
  have hz := h.len
  have := st_append t (by unfold maxLen; omega) h hn hB
  rw [(acode3 h1 h2).1, (acode3 h1 h2).2] at this
  exact this
theorem st_chk0 (t : ByteArray) (h : St w B U d f v z m l n) (hn : n < 700000) (hB : B ≤ w.heap.size) (h1 : t.size + 14 ≤ z) (h2 : l.gen < 4294967295) :
    Calls Try.prog 17 #[.pointer (some ⟨v, 0, none⟩), .string t] w (StQ w B U d f v z m ⟨1 - l.area, l.gen + 1, [t], false⟩ (n + 4) 0) := by
  have hz := h.len
  have := st_check t (by unfold maxLen; omega) h hn hB
  rw [(ccode0 h1 h2).1, (ccode0 h1 h2).2] at this
  exact this

set_option maxRecDepth 20000 in
set_option maxHeartbeats 4000000 in
theorem awake_yes (w : World) : Calls Try.prog 9 #[] w fun e w' => e = .returned (.bool true) ∧ Below w.heap.size w w' := by
  go_enter Try.func9, Try.ntmps9
  go_wp2_with fail
  refine (new_any _).mono ?_
  rintro e w1 ⟨f, rfl, hg, hz, hb⟩
  have HB1 := Lib.hid hb
  have HZ1 := Lib.hid hz
  have HG := Lib.hid hg
  clear hz hb hg
  go_wp2_with fail
  refine (new_D (B := w.heap.size) 128 8 128 8 (by decide) (by decide) HZ1.out new_good (Nat.le_of_eq HG.out) HB1.out.size).mono ?_
  rintro e w2 ⟨d, P2, rfl, hd, hb, hp⟩
  have HD2 := Lib.hid hd
  have HB2 := Lib.hid (HB1.out.trans (hb.mono HB1.out.size))
  clear hd hb hp HZ1
  go_wp2_with fail
  refine (st_fresh HD2.out (by omega) (by omega) (by omega) (by omega) HB2.out.size).mono ?_
  rintro e w3 ⟨U3, v, ra, rc, rfl, hs, hb⟩
  have H3 := Lib.hid hs
  have HB3 := Lib.hid (HB2.out.trans hb)
  clear hs hb
  go_wp2_with fail
  refine (st_app0 ⟨#[97]⟩ H3.out (by omega) HB3.out.size (by decide) (by decide)).mono ?_
  rintro e w4 ⟨rfl, U4, hs, _, hk⟩
  have H4 := Lib.hid hs
  have HB4 := Lib.hid (HB3.out.trans (H3.out.below hk HB3.out.size))
  clear hs hk
  go_wp2_with fail
  refine (st_app0 ⟨#[98]⟩ H4.out (by omega) HB4.out.size (by decide) (by decide)).mono ?_
  rintro e w5 ⟨rfl, U5, hs, _, hk⟩
  have H5 := Lib.hid hs
  have HB5 := Lib.hid (HB4.out.trans (H4.out.below hk HB4.out.size))
  clear hs hk
  go_wp2_with fail
  refine (st_room H5.out).mono ?_
  rintro e w6 ⟨rfl, ha⟩
  have H6 := Lib.hid (H5.out.alike ha)
  have HB6 := Lib.hid (below_alike HB5.out ha)
  clear ha
  go_wp2_with fail
  refine (st_app0 ⟨#[99]⟩ H6.out (by omega) HB6.out.size (by decide) (by decide)).mono ?_
  rintro e w7 ⟨rfl, U7, hs, _, hk⟩
  have H7 := Lib.hid hs
  have HB7 := Lib.hid (HB6.out.trans (H6.out.below hk HB6.out.size))
  clear hs hk
  go_wp2_with fail
  refine (st_app3 ⟨#[100]⟩ H7.out (by omega) HB7.out.size (by decide) (by decide)).mono ?_
  rintro e w8 ⟨rfl, U8, hs, _, hk⟩
  have H8 := Lib.hid hs
  have HB8 := Lib.hid (HB7.out.trans (H7.out.below hk HB7.out.size))
  clear hs hk
  go_wp2_with fail
  refine (st_chk0 ⟨#[97, 98, 99]⟩ H8.out (by omega) HB8.out.size (by decide) (by decide)).mono ?_
  rintro e w9 ⟨rfl, U9, hs, _, hk⟩
  have H9 := Lib.hid hs
  have HB9 := Lib.hid (HB8.out.trans (H8.out.below hk HB8.out.size))
  clear hs hk
  go_wp2_with fail
  refine (st_app0 ⟨#[100]⟩ H9.out (by omega) HB9.out.size (by decide) (by decide)).mono ?_
  rintro e w10 ⟨rfl, U10, hs, _, hk⟩
  have H10 := Lib.hid hs
  have HB10 := Lib.hid (HB9.out.trans (H9.out.below hk HB9.out.size))
  clear hs hk
  go_wp2_with fail
  refine (st_open H10.out (by omega) HB10.out.size).mono ?_
  rintro e w11 ⟨U11, v', ra', rc', rfl, _, hs, ho, _, _, hk⟩
  have H11 := Lib.hid hs
  have HR11 := Lib.hid (Vals.of_own ho)
  have HB11 := Lib.hid (HB10.out.trans (H10.out.below hk HB10.out.size))
  clear hs hk ho
  have HSM : Hid (Calls Try.prog 23 #[.slice ra' 2 rc', .slice (some ⟨w11.heap.size, 0, none⟩) 2 2] (w11.alloc (.cells #[.string ⟨#[97, 98, 99]⟩, .string ⟨#[100]⟩] 9)) fun e w' => e = .returned (.bool true) ∧ Below w11.heap.size w11 w') := Lib.hid (by
    have hb0 := (Below.refl w11.heap.size w11).alloc (Nat.le_refl _) (.cells #[.string ⟨#[97, 98, 99]⟩, .string ⟨#[100]⟩] 9)
    refine (same_any [⟨#[97, 98, 99]⟩, ⟨#[100]⟩] [⟨#[97, 98, 99]⟩, ⟨#[100]⟩] _ _ _ (HR11.out.under hb0) (vals_new w11 [⟨#[97, 98, 99]⟩, ⟨#[100]⟩] 9) (by decide)).mono ?_
    rintro e w' ⟨he, hb⟩
    rw [same_self] at he
    exact ⟨he, hb0.trans (hb.mono (by simp))⟩)
  go_wp2_with fail
  refine HSM.out.mono ?_
  rintro e w12 ⟨rfl, hb⟩
  have H12 := Lib.hid (H11.out.under hb)
  have HB12 := Lib.hid (HB11.out.trans (hb.mono HB11.out.size))
  clear hb
  go_wp2_with fail
  refine (st_gen H12.out).mono ?_
  rintro e w' ⟨rfl, rfl⟩
  go_wp2_with fail
  refine (st_broken H12.out).mono ?_
  rintro e w' ⟨rfl, rfl⟩
  go_wp2
  go_ret
  exact ⟨rfl, HB12.out⟩
end Go.Proofs.Ytooikkjgcpngdaa
