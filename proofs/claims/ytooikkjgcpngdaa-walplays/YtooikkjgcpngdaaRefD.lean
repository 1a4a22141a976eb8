/-
  The document's own Crash.
-/
import Derived.Test.YtooikkjgcpngdaaRefC
import Derived.Deep.RegionHeld3
namespace Go.Proofs.Ytooikkjgcpngdaa
open Go.RowKit

variable {P Q R : Nat → Prop} {w w' : World} {B m g : Nat} {fu : Fu} {lv nv wv hv : Value}

/-- The number that is halved, a write a time. -/
def KOK (keep j q : Nat) : Prop := j % 64 ≠ 0 → q = keep / 2 ^ (j % 64)
theorem KOK.next (keep j : Nat) : KOK keep (j + 1) (keep / 2 ^ (j % 64) / 2) := by
  intro h
  have e : (j + 1) % 64 = j % 64 + 1 := by omega
  rw [e, Nat.div_div_eq_div_mul, Nat.pow_succ]
theorem val_zero {keep j : Nat} (h : j % 64 = 0) : keep / 2 ^ (j % 64) = keep := by rw [h]; simp
theorem bit_of {keep j q : Nat} (hq : q = keep / 2 ^ (j % 64)) : bit keep j = (q % 2 == 1) := by rw [hq]; rfl
theorem q_lt {keep j : Nat} (hk : keep < 18446744073709551616) : keep / 2 ^ (j % 64) < 18446744073709551616 := Nat.lt_of_le_of_lt (Nat.div_le_self _ _) hk

theorem where_at {w : World} {B k cap j n sec : Nat} {wv : Value} {opn : List (Nat × ByteArray)} (h : w.ownsRow B 3 1 wv (opn.map Prod.fst).length (ints (opn.map Prod.fst))) (hv : wv = .slice (some ⟨k, 0, none⟩) n cap) (hj : j < opn.length) (hs : sec = opn[j].1) : w.cell? ⟨k, j, none⟩ = some (.int .i64 (sec : Int)) := by
  subst hv
  obtain rfl : n = (opn.map Prod.fst).length := by
    rcases h.2 with ⟨e, _⟩ | ⟨g', c', cur, e, _⟩
    · cases e
    · simp only [Value.slice.injEq] at e
      exact e.2.1
  rw [own_int h rfl (by simpa using hj), hs]
  simp [hj]
theorem what_at {w : World} {B k cap j n : Nat} {b : ByteArray} {hv : Value} {opn : List (Nat × ByteArray)} (h : w.ownsRow B 9 1 hv (opn.map Prod.snd).length (strs (opn.map Prod.snd))) (hv' : hv = .slice (some ⟨k, 0, none⟩) n cap) (hj : j < opn.length) (hs : b = opn[j].2) : w.cell? ⟨k, j, none⟩ = some (.string b) := by
  subst hv'
  obtain rfl : n = (opn.map Prod.snd).length := by
    rcases h.2 with ⟨e, _⟩ | ⟨g', c', cur, e, _⟩
    · cases e
    · simp only [Value.slice.injEq] at e
      exact e.2.1
  rw [own_str h rfl (by simpa using hj), hs]
  simp [hj]
/-- Behind Set, and the store of what it gives. -/
theorem set_then {w0 w w5 : World} {size : Nat} {LL now : List ByteArray} {wl : List Nat} {hl : List ByteArray} {v : Value} {l : List ByteArray} (h : InvR w B (grow R w0 w) m g fu size LL now wl hl lv nv wv hv) (_hBw : B ≤ w.heap.size) (hB0 : B ≤ w0.heap.size) (hk : Kept R w0 w)
    (hown : w5.ownsRow B 9 1 v l.length (strs l)) (hblk : ∀ k, v.ownBlock = some k → w.heap.size ≤ k ∧ k < w5.heap.size) (hbl : Below w.heap.size w w5) :
    Hid (Below w.heap.size w w5) ∧ Hid (InvR w5 B (grow R w0 w) m g fu size LL now wl hl lv nv wv hv) ∧ Hid (InvR (w5.setCell ⟨m, 1, none⟩ v) B (grow R w0 w5) m g fu size l now wl hl v nv wv hv) := by
  have h5 := h.under hbl
  refine ⟨Lib.hid hbl, Lib.hid h5, Lib.hid ((h5.mono (fun k hk => hk.imp id fun h => ⟨h.1, Nat.lt_of_lt_of_le h.2 hbl.size⟩) ?_).set1 v l hown fun k hk' => .inr ⟨Nat.le_trans hk.size (hblk k hk').1, (hblk k hk').2⟩)⟩
  rintro k (hk' | ⟨h1, h2⟩)
  · exact h5.lt k (.inl hk')
  · exact ⟨by omega, h2⟩
theorem set_here {w0 w wd : World} {size : Nat} {LL now : List ByteArray} {hl : List ByteArray} {opn : List (Nat × ByteArray)} {lb lc k n cap j sec : Nat} (hd : wd.os = w.os ∧ wd.tape = w.tape ∧ wd.output = w.output ∧ wd.heap = w.heap)
    (h : InvR w B (grow R w0 w) m g fu size LL now (opn.map Prod.fst) hl (.slice (some ⟨lb, 0, none⟩) LL.length lc) nv wv hv) (hB0 : B ≤ w0.heap.size) (hk : Kept R w0 w) (hll : sec < LL.length) (hln : LL.length ≤ 1024) (_hv : wv = .slice (some ⟨k, 0, none⟩) n cap) (hj : j < opn.length) (_hs : sec = opn[j].1) (BB : ByteArray) :
    Calls Try.prog 47 #[.slice (some ⟨lb, 0, none⟩) LL.length lc, .int .i64 (sec : Int), .string BB] wd fun e w5 => ∃ va vc, e = .returned (.slice va LL.length vc) ∧ Hid (Below w.heap.size w w5) ∧ Hid (InvR (w5.setCell ⟨m, 1, none⟩ (.slice va LL.length vc)) B (grow R w0 w5) m g fu size (LL.set sec BB) now (opn.map Prod.fst) hl (.slice va LL.length vc) nv wv hv) ∧ w5.cell? ⟨m, 1, none⟩ = some (.slice (some ⟨lb, 0, none⟩) LL.length lc) ∧ w5.frozen? ⟨m, 1, none⟩ = false := by
  obtain ⟨d1, d2, d3, d4⟩ := hd
  have hol : wd.ownsRow B 9 1 (.slice (some ⟨lb, 0, none⟩) LL.length lc) LL.length (strs LL) := own_other h.ol fun x _ => by rw [d4]
  refine (set_any sec BB hol hll hln (by rw [d4]; exact Nat.le_trans hB0 hk.size)).mono ?_
  rintro e w5 ⟨v5, rfl, hown5, hblk5, hbl5⟩
  obtain ⟨va, vc, hv5⟩ := own_shape hown5
  rw [List.length_set] at hv5
  subst hv5
  have hb5 : Below w.heap.size w w5 := ⟨hbl5.os.trans d1, hbl5.tape.trans d2, hbl5.output.trans d3, by rw [← d4]; exact hbl5.size, fun x hx => by rw [← d4] at hx ⊢; exact hbl5.block x hx⟩
  obtain ⟨q1, q2, q3⟩ := set_then h (Nat.le_trans hB0 hk.size) hB0 hk hown5 (fun x hx => by rw [← d4]; exact hblk5 x hx) hb5
  exact ⟨va, vc, rfl, q1, q3, q2.out.c1, q2.out.fr 1⟩
theorem grow_set {w0 w5 : World} {v : Value} {i : Nat} {size : Nat} {last now : List ByteArray} {wl : List Nat} {hl : List ByteArray} (h : InvR (w5.setCell ⟨m, i, none⟩ v) B (grow R w0 w5) m g fu size last now wl hl lv nv wv hv) (hB0 : B ≤ w0.heap.size) : InvR (w5.setCell ⟨m, i, none⟩ v) B (grow R w0 (w5.setCell ⟨m, i, none⟩ v)) m g fu size last now wl hl lv nv wv hv := by
  refine h.mono (fun k hk => hk.imp id fun h => ⟨h.1, by simpa [World.setCell] using h.2⟩) ?_
  rintro k (hk | ⟨h1, h2⟩)
  · exact h.lt k (.inl hk)
  · exact ⟨by omega, h2⟩

/-- What the second loop has. -/
def CLoop (w0 w : World) (B : Nat) (R : Nat → Prop) (m g : Nat) (fu : Fu) (s : Dk) (keep : Nat) (lk : Int) (t : Nat) (nv wv hv : Value) (j : Nat) : Prop :=
  ∃ lv, InvR w B (grow R w0 w) m g fu s.size (crashTo keep lk t s.opn s.last j) s.now (s.opn.map Prod.fst) (s.opn.map Prod.snd) lv nv wv hv ∧ Kept R w0 w

set_option maxRecDepth 20000 in
set_option maxHeartbeats 8000000 in
theorem mcrash_any (keep : Nat) (t0 : Int) (s : Dk) (hk : keep < 18446744073709551616) (h : InvR w B R m g fu s.size s.last s.now (s.opn.map Prod.fst) (s.opn.map Prod.snd) lv nv wv hv) (hgd : s.Good) (hl : s.opn.length < 1000000) (hBw : B ≤ w.heap.size) :
    Calls Try.prog 22 #[.pointer (some ⟨m, 0, none⟩), .int .u64 (keep : Int), .int .i64 t0] w fun e w' => e = .returned (.tuple #[]) ∧ ∃ lv', InvR w' B (grow R w w') m g fu.reset s.size (s.crashed keep (cut t0 s.size)) (s.crashed keep (cut t0 s.size)) [] [] lv' lv' (.slice none 0 0) (.slice none 0 0) ∧ Kept R w w' := by
  have c3 := h.c3
  have HI := Lib.hid h
  have HG := Lib.hid hgd
  clear h hgd
  obtain ⟨wa, wcap, hwv⟩ := own_shape HI.out.ow
  rw [List.length_map] at hwv
  have HWV := Lib.hid hwv
  rw [hwv] at c3
  clear hwv
  obtain ⟨t, ht⟩ : ∃ t, t = cut t0 s.size := ⟨_, rfl⟩
  have hts : t ≤ s.size := by rw [ht]; exact cut_le _ _
  have HT : Hid ((t : Int) = min (max t0 0) (s.size : Int)) := Lib.hid (by rw [ht]; exact cut_int _ _)
  rw [← ht]
  clear ht
  go_enter Try.func22, Try.ntmps22
  go_wp2
  go_loopg [6, 7, 8] s.opn.length (fun gg l q i wr => ∃ (j qn : Nat) (L : Int), Hid (gg = s.opn.length - j) ∧ j ≤ s.opn.length ∧ Hid (L = lastK keep j) ∧ l = .int .i64 L ∧ q = .int .u64 (qn : Int) ∧ i = .int .i64 (j : Int) ∧ qn < 18446744073709551616 ∧ Hid (KOK keep j qn) ∧ w = wr)
  case atStart => exact ⟨0, keep, -1, Lib.hid rfl, Nat.zero_le _, Lib.hid rfl, rfl, rfl, rfl, hk, Lib.hid (fun h => absurd rfl h), rfl⟩
  case round =>
    obtain ⟨j, qn, L, HGG, hj, HL, rfl, rfl, rfl, hq, HQ, rfl⟩ := hrel
    by_cases hlt : j < s.opn.length
    · by_cases h64 : j % 64 = 0
      · have e64 : ((j : Int) % 64 == 0) = true := by simp; omega
        have HB : Hid (bit keep j = (keep % 2 == 1)) := Lib.hid (bit_of (val_zero h64).symm)
        have HN : Hid (KOK keep (j + 1) (keep / 2)) := Lib.hid (by have := KOK.next keep j; rw [val_zero h64] at this; exact this)
        clear h64
        by_cases hb : keep % 2 = 1
        · have eb : ((keep : Int) % 2 == 1) = true := by simp; omega
          have HBJ : Hid (bit keep j = true) := Lib.hid (by rw [HB.out]; simpa using hb)
          clear hb
          go_wp2
          go_roundg (s.opn.length - (j + 1))
          case measure => have := HGG.out; omega
          case rel => exact ⟨j + 1, keep / 2, (j : Int), Lib.hid rfl, by omega, Lib.hid (by rw [lastK, if_pos HBJ.out]), rfl, by go_num, by go_num, by omega, HN, rfl⟩
        · have eb : ((keep : Int) % 2 == 1) = false := by simp; omega
          have HBJ : Hid (bit keep j = false) := Lib.hid (by rw [HB.out]; simpa using hb)
          clear hb
          go_wp2
          go_roundg (s.opn.length - (j + 1))
          case measure => have := HGG.out; omega
          case rel => exact ⟨j + 1, keep / 2, L, Lib.hid rfl, by omega, Lib.hid (by rw [lastK, if_neg (by rw [HBJ.out]; decide)]; exact HL.out), rfl, by go_num, by go_num, by omega, HN, rfl⟩
      · have e64 : ((j : Int) % 64 == 0) = false := by simp; omega
        have HB : Hid (bit keep j = (qn % 2 == 1)) := Lib.hid (bit_of (HQ.out h64))
        have HN : Hid (KOK keep (j + 1) (qn / 2)) := Lib.hid (by have := KOK.next keep j; rw [← HQ.out h64] at this; exact this)
        clear h64
        by_cases hb : qn % 2 = 1
        · have eb : ((qn : Int) % 2 == 1) = true := by simp; omega
          have HBJ : Hid (bit keep j = true) := Lib.hid (by rw [HB.out]; simpa using hb)
          clear hb
          go_wp2
          go_roundg (s.opn.length - (j + 1))
          case measure => have := HGG.out; omega
          case rel => exact ⟨j + 1, qn / 2, (j : Int), Lib.hid rfl, by omega, Lib.hid (by rw [lastK, if_pos HBJ.out]), rfl, by go_num, by go_num, by omega, HN, rfl⟩
        · have eb : ((qn : Int) % 2 == 1) = false := by simp; omega
          have HBJ : Hid (bit keep j = false) := Lib.hid (by rw [HB.out]; simpa using hb)
          clear hb
          go_wp2
          go_roundg (s.opn.length - (j + 1))
          case measure => have := HGG.out; omega
          case rel => exact ⟨j + 1, qn / 2, L, Lib.hid rfl, by omega, Lib.hid (by rw [lastK, if_neg (by rw [HBJ.out]; decide)]; exact HL.out), rfl, by go_num, by go_num, by omega, HN, rfl⟩
    · obtain rfl : j = s.opn.length := by omega
      have HW0 : Hid (CLoop w w B R m g fu s keep L t nv wv hv 0) := by
        refine Lib.hid ⟨lv, HI.out.mono (fun k hk => .inl hk) ?_, Kept.refl _ _⟩
        rintro k (hk | ⟨h1, h2⟩)
        · exact HI.out.lt k hk
        · exact ⟨by omega, h2⟩
      have HLT : Hid (∀ i : Nat, bit keep i = false → (i : Int) ≠ L) := Lib.hid (fun i hi e => by
        rw [HL.out] at e
        rw [lastK_bit keep _ i e] at hi
        cases hi)
      clear HQ HGG
      go_wp2
      go_loopg [7, 9] s.opn.length (fun gg q i wr => ∃ (j qn : Nat), Hid (gg = s.opn.length - j) ∧ j ≤ s.opn.length ∧ q = .int .u64 (qn : Int) ∧ i = .int .i64 (j : Int) ∧ qn < 18446744073709551616 ∧ Hid (KOK keep j qn) ∧ Hid (CLoop w wr B R m g fu s keep L t nv wv hv j))
      case atStart => exact ⟨0, keep, Lib.hid rfl, Nat.zero_le _, rfl, rfl, hk, Lib.hid (fun h => absurd rfl h), HW0⟩
      case round =>
        obtain ⟨j, qn, HGG, hj, rfl, rfl, hq, HQ, HR⟩ := hrel
        obtain ⟨lv', hi', hkp'⟩ := HR.out
        clear HR
        have HI' := Lib.hid hi'
        have HK' := Lib.hid hkp'
        clear hi' hkp'
        have c3' := HI'.out.c3
        rw [HWV.out] at c3'
        by_cases hlt : j < s.opn.length
        · by_cases h64 : j % 64 = 0
          · have e64 : ((j : Int) % 64 == 0) = true := by simp; omega
            have HB : Hid (bit keep j = (keep % 2 == 1)) := Lib.hid (bit_of (val_zero h64).symm)
            have HN : Hid (KOK keep (j + 1) (keep / 2)) := Lib.hid (by have := KOK.next keep j; rw [val_zero h64] at this; exact this)
            clear h64
            by_cases hb : keep % 2 = 1
            · have eb : ((keep : Int) % 2 == 1) = true := by simp; omega
              have HBJ : Hid (bit keep j = true) := Lib.hid (by rw [HB.out]; simpa using hb)
              clear hb
              have hn0 : 0 < s.opn.length := by omega
              obtain ⟨wk, wc, hwk⟩ := own_form HI'.out.ow (by rw [List.length_map]; exact hn0)
              rw [List.length_map] at hwk
              obtain ⟨rfl, rfl⟩ : wa = some ⟨wk, 0, none⟩ ∧ wcap = wc := by simpa using HWV.out.symm.trans hwk
              clear hwk
              obtain ⟨hkb, hcb, hhv⟩ := own_form HI'.out.oh (by rw [List.length_map]; exact hn0)
              rw [List.length_map] at hhv
              have c4 := HI'.out.c4
              rw [hhv] at c4
              obtain ⟨sec, hsec⟩ : ∃ x, x = s.opn[j].1 := ⟨_, rfl⟩
              obtain ⟨b, hbq⟩ : ∃ x, x = s.opn[j].2 := ⟨_, rfl⟩
              have hsl : sec < s.now.length := by rw [hsec]; exact (HG.out.opns _ (List.getElem_mem hlt)).1
              have hbs : b.size = s.size := by rw [hbq]; exact (HG.out.opns _ (List.getElem_mem hlt)).2
              have xw := where_at HI'.out.ow HWV.out hlt hsec
              have xh : wr.cell? ⟨hkb, j, none⟩ = some (.string b) := what_at HI'.out.oh hhv hlt hbq
              have HSEC := Lib.hid hsec
              have HBQ := Lib.hid hbq
              clear hhv hsec hbq
              obtain ⟨LL, hLL⟩ : ∃ l, l = crashTo keep L t s.opn s.last j := ⟨_, rfl⟩
              have hln : LL.length = s.now.length := by rw [hLL, crashTo_len, HG.out.len]
              have hlsz : ∀ x ∈ LL, x.size = s.size := by rw [hLL]; exact (HG.out.crashing keep L hts j).lasts
              rw [← hLL] at HI'
              have HLL := Lib.hid hLL
              clear hLL
              have hll : sec < LL.length := by omega
              obtain ⟨lb, lc, hlv⟩ := own_form HI'.out.ol (Nat.lt_of_le_of_lt (Nat.zero_le _) hll)
              subst hlv
              have c1 := HI'.out.c1
              have xl := own_str HI'.out.ol rfl hll
              obtain ⟨y, hy⟩ : ∃ y, y = LL.getD sec nil := ⟨_, rfl⟩
              rw [← hy] at xl
              have hys : y.size = s.size := by rw [hy]; exact hlsz _ (getD_mem hll)
              have HY := Lib.hid hy
              have hsz := HG.out.sz
              have tb : t ≤ b.size := by omega
              have ty : t ≤ y.size := by omega
              have ub : b.size ≤ 1024 := by omega
              have uy : y.size ≤ 1024 := by omega
              have c0 := HI'.out.c0
              have HSZ := Lib.hid hsz
              have HLN : Hid (LL.length ≤ 1024) := Lib.hid (by have := HG.out.n1; omega)
              have HBR : Hid (B ≤ wr.heap.size) := Lib.hid (Nat.le_trans hBw HK'.out.size)
              clear hy hys hbs hlsz hsl hn0 hln hsz
              by_cases hjl : (j : Int) = L
              · have HJL := Lib.hid hjl
                have e1 : ((j : Int) == L) = true := by simpa using hjl
                clear hjl
                go_wp2_with fail
                refine (clamp_nat t0 0 s.size t HT.out (by omega) _).mono ?_
                rintro e w' ⟨rfl, rfl⟩
                go_wp2
                go_quiet (fail)
                go_wp2
                go_region_with (first | (go_at_call 47; go_must (refine (set_here ?_ HI'.out hBw HK'.out hll HLN.out HWV.out hlt HSEC.out (b.extract 0 t ++ y.extract t y.size)).mono ?_; (exact ⟨rfl, rfl, rfl, rfl⟩)); rintro e w5 ⟨va5, vc5, rfl, HB5, HI6, y1, yf⟩))
                all_goals clear c1 c0 c4 c3' xw xh xl y1 yf
                all_goals go_wp2
                all_goals go_roundg (s.opn.length - (j + 1))
                all_goals first | (have := HGG.out; omega) | (refine ⟨j + 1, keep / 2, Lib.hid rfl, by omega, by go_num, by go_num, by omega, HN, Lib.hid ⟨.slice va5 LL.length vc5, ?_, (HK'.out.same (Kept.ofBelow HB5.out)).setCell (fun _ => HI.out.rm) _⟩⟩; rw [crashTo_succ hlt, step_torn HJL.out, ← HLL.out, ← HSEC.out, ← HBQ.out, ← HY.out]; exact grow_set HI6.out hBw)
              · have HJL := Lib.hid hjl
                have e1 : ((j : Int) == L) = false := by simpa using hjl
                clear hjl
                go_wp2
                go_region_with (first | (go_at_call 47; go_must (refine (set_here ?_ HI'.out hBw HK'.out hll HLN.out HWV.out hlt HSEC.out (b)).mono ?_; (exact ⟨rfl, rfl, rfl, rfl⟩)); rintro e w5 ⟨va5, vc5, rfl, HB5, HI6, y1, yf⟩))
                all_goals clear c1 c0 c4 c3' xw xh xl y1 yf
                all_goals go_wp2
                all_goals go_roundg (s.opn.length - (j + 1))
                all_goals first | (have := HGG.out; omega) | (refine ⟨j + 1, keep / 2, Lib.hid rfl, by omega, by go_num, by go_num, by omega, HN, Lib.hid ⟨.slice va5 LL.length vc5, ?_, (HK'.out.same (Kept.ofBelow HB5.out)).setCell (fun _ => HI.out.rm) _⟩⟩; rw [crashTo_succ hlt, step_kept HJL.out HBJ.out, ← HLL.out, ← HSEC.out, ← HBQ.out]; exact grow_set HI6.out hBw)
            · have eb : ((keep : Int) % 2 == 1) = false := by simp; omega
              have HBJ : Hid (bit keep j = false) := Lib.hid (by rw [HB.out]; simpa using hb)
              clear hb
              go_wp2
              go_roundg (s.opn.length - (j + 1))
              case measure => have := HGG.out; omega
              case rel => exact ⟨j + 1, keep / 2, Lib.hid rfl, by omega, by go_num, by go_num, by omega, HN, Lib.hid ⟨lv', by rw [crashTo_succ hlt, step_lost (HLT.out j HBJ.out) HBJ.out]; exact HI'.out, HK'.out⟩⟩
          · have e64 : ((j : Int) % 64 == 0) = false := by simp; omega
            have HB : Hid (bit keep j = (qn % 2 == 1)) := Lib.hid (bit_of (HQ.out h64))
            have HN : Hid (KOK keep (j + 1) (qn / 2)) := Lib.hid (by have := KOK.next keep j; rw [← HQ.out h64] at this; exact this)
            clear h64
            by_cases hb : qn % 2 = 1
            · have eb : ((qn : Int) % 2 == 1) = true := by simp; omega
              have HBJ : Hid (bit keep j = true) := Lib.hid (by rw [HB.out]; simpa using hb)
              clear hb
              have hn0 : 0 < s.opn.length := by omega
              obtain ⟨wk, wc, hwk⟩ := own_form HI'.out.ow (by rw [List.length_map]; exact hn0)
              rw [List.length_map] at hwk
              obtain ⟨rfl, rfl⟩ : wa = some ⟨wk, 0, none⟩ ∧ wcap = wc := by simpa using HWV.out.symm.trans hwk
              clear hwk
              obtain ⟨hkb, hcb, hhv⟩ := own_form HI'.out.oh (by rw [List.length_map]; exact hn0)
              rw [List.length_map] at hhv
              have c4 := HI'.out.c4
              rw [hhv] at c4
              obtain ⟨sec, hsec⟩ : ∃ x, x = s.opn[j].1 := ⟨_, rfl⟩
              obtain ⟨b, hbq⟩ : ∃ x, x = s.opn[j].2 := ⟨_, rfl⟩
              have hsl : sec < s.now.length := by rw [hsec]; exact (HG.out.opns _ (List.getElem_mem hlt)).1
              have hbs : b.size = s.size := by rw [hbq]; exact (HG.out.opns _ (List.getElem_mem hlt)).2
              have xw := where_at HI'.out.ow HWV.out hlt hsec
              have xh : wr.cell? ⟨hkb, j, none⟩ = some (.string b) := what_at HI'.out.oh hhv hlt hbq
              have HSEC := Lib.hid hsec
              have HBQ := Lib.hid hbq
              clear hhv hsec hbq
              obtain ⟨LL, hLL⟩ : ∃ l, l = crashTo keep L t s.opn s.last j := ⟨_, rfl⟩
              have hln : LL.length = s.now.length := by rw [hLL, crashTo_len, HG.out.len]
              have hlsz : ∀ x ∈ LL, x.size = s.size := by rw [hLL]; exact (HG.out.crashing keep L hts j).lasts
              rw [← hLL] at HI'
              have HLL := Lib.hid hLL
              clear hLL
              have hll : sec < LL.length := by omega
              obtain ⟨lb, lc, hlv⟩ := own_form HI'.out.ol (Nat.lt_of_le_of_lt (Nat.zero_le _) hll)
              subst hlv
              have c1 := HI'.out.c1
              have xl := own_str HI'.out.ol rfl hll
              obtain ⟨y, hy⟩ : ∃ y, y = LL.getD sec nil := ⟨_, rfl⟩
              rw [← hy] at xl
              have hys : y.size = s.size := by rw [hy]; exact hlsz _ (getD_mem hll)
              have HY := Lib.hid hy
              have hsz := HG.out.sz
              have tb : t ≤ b.size := by omega
              have ty : t ≤ y.size := by omega
              have ub : b.size ≤ 1024 := by omega
              have uy : y.size ≤ 1024 := by omega
              have c0 := HI'.out.c0
              have HSZ := Lib.hid hsz
              have HLN : Hid (LL.length ≤ 1024) := Lib.hid (by have := HG.out.n1; omega)
              have HBR : Hid (B ≤ wr.heap.size) := Lib.hid (Nat.le_trans hBw HK'.out.size)
              clear hy hys hbs hlsz hsl hn0 hln hsz
              by_cases hjl : (j : Int) = L
              · have HJL := Lib.hid hjl
                have e1 : ((j : Int) == L) = true := by simpa using hjl
                clear hjl
                go_wp2_with fail
                refine (clamp_nat t0 0 s.size t HT.out (by omega) _).mono ?_
                rintro e w' ⟨rfl, rfl⟩
                go_wp2
                go_quiet (fail)
                go_wp2
                go_region_with (first | (go_at_call 47; go_must (refine (set_here ?_ HI'.out hBw HK'.out hll HLN.out HWV.out hlt HSEC.out (b.extract 0 t ++ y.extract t y.size)).mono ?_; (exact ⟨rfl, rfl, rfl, rfl⟩)); rintro e w5 ⟨va5, vc5, rfl, HB5, HI6, y1, yf⟩))
                all_goals clear c1 c0 c4 c3' xw xh xl y1 yf
                all_goals go_wp2
                all_goals go_roundg (s.opn.length - (j + 1))
                all_goals first | (have := HGG.out; omega) | (refine ⟨j + 1, qn / 2, Lib.hid rfl, by omega, by go_num, by go_num, by omega, HN, Lib.hid ⟨.slice va5 LL.length vc5, ?_, (HK'.out.same (Kept.ofBelow HB5.out)).setCell (fun _ => HI.out.rm) _⟩⟩; rw [crashTo_succ hlt, step_torn HJL.out, ← HLL.out, ← HSEC.out, ← HBQ.out, ← HY.out]; exact grow_set HI6.out hBw)
              · have HJL := Lib.hid hjl
                have e1 : ((j : Int) == L) = false := by simpa using hjl
                clear hjl
                go_wp2
                go_region_with (first | (go_at_call 47; go_must (refine (set_here ?_ HI'.out hBw HK'.out hll HLN.out HWV.out hlt HSEC.out (b)).mono ?_; (exact ⟨rfl, rfl, rfl, rfl⟩)); rintro e w5 ⟨va5, vc5, rfl, HB5, HI6, y1, yf⟩))
                all_goals clear c1 c0 c4 c3' xw xh xl y1 yf
                all_goals go_wp2
                all_goals go_roundg (s.opn.length - (j + 1))
                all_goals first | (have := HGG.out; omega) | (refine ⟨j + 1, qn / 2, Lib.hid rfl, by omega, by go_num, by go_num, by omega, HN, Lib.hid ⟨.slice va5 LL.length vc5, ?_, (HK'.out.same (Kept.ofBelow HB5.out)).setCell (fun _ => HI.out.rm) _⟩⟩; rw [crashTo_succ hlt, step_kept HJL.out HBJ.out, ← HLL.out, ← HSEC.out, ← HBQ.out]; exact grow_set HI6.out hBw)
            · have eb : ((qn : Int) % 2 == 1) = false := by simp; omega
              have HBJ : Hid (bit keep j = false) := Lib.hid (by rw [HB.out]; simpa using hb)
              clear hb
              go_wp2
              go_roundg (s.opn.length - (j + 1))
              case measure => have := HGG.out; omega
              case rel => exact ⟨j + 1, qn / 2, Lib.hid rfl, by omega, by go_num, by go_num, by omega, HN, Lib.hid ⟨lv', by rw [crashTo_succ hlt, step_lost (HLT.out j HBJ.out) HBJ.out]; exact HI'.out, HK'.out⟩⟩
        · obtain rfl : j = s.opn.length := by omega
          obtain ⟨X, hX⟩ : ∃ l, l = crashTo keep L t s.opn s.last s.opn.length := ⟨_, rfl⟩
          rw [← hX] at HI'
          have HX : Hid (X = s.crashed keep t) := Lib.hid (by rw [hX, HL.out]; rfl)
          clear hX
          have c1 := HI'.out.c1
          have c2 := HI'.out.c2
          have c4 := HI'.out.c4
          have f2 := HI'.out.fr 2
          have f3 := HI'.out.fr 3
          have f4 := HI'.out.fr 4
          obtain ⟨na, ncap, hnv⟩ := own_shape HI'.out.on
          obtain ⟨la, lcap, hlv⟩ := own_shape HI'.out.ol
          obtain ⟨ha, hcap, hhv⟩ := own_shape HI'.out.oh
          have HI9 := Lib.hid (((HI'.out.set2 lv' X HI'.out.ol HI'.out.rl).set3 (.slice none 0 0) [] (World.ownsRow_nil _ _ _ _) (fun k hk => by cases hk)).set4 (.slice none 0 0) [] (World.ownsRow_nil _ _ _ _) (fun k hk => by cases hk))
          have HK9 := Lib.hid (((HK'.out.setCell (a := ⟨m, 2, none⟩) (fun _ => HI.out.rm) lv').setCell (a := ⟨m, 3, none⟩) (fun _ => HI.out.rm) (.slice none 0 0)).setCell (a := ⟨m, 4, none⟩) (fun _ => HI.out.rm) (.slice none 0 0))
          rw [hnv] at c2
          rw [hhv] at c4
          have c5 := HI9.out.c5
          subst hlv
          clear hnv hhv
          go_wp2_with fail
          refine (mreset_R HI9.out.hf).mono ?_
          rintro e w9 ⟨rfl, hz, hon⟩
          have HI10 := Lib.hid (HI9.out.fuse hz hon)
          have HK10 := Lib.hid (HK9.out.only hon fun _ => HI.out.rg)
          have HS10 := Lib.hid hon.size
          clear hz hon
          go_wp2
          go_end0
          refine ⟨rfl, .slice la (s.crashed keep t).length lcap, ?_, HK10.out⟩
          have h := HI10.out
          rw [HX.out] at h
          refine h.mono (Q := grow R w w9) (fun k hk => hk.imp id fun h => ⟨h.1, by rw [HS10.out]; simpa [World.setCell] using h.2⟩) ?_
          rintro k (hk | ⟨h1, h2⟩)
          · exact h.lt k (.inl hk)
          · exact ⟨by omega, h2⟩
end Go.Proofs.Ytooikkjgcpngdaa
