/-
  The program's own log: Open.
-/
import Derived.Test.YtooikkjgcpngdaaWalH
namespace Go.Proofs.Ytooikkjgcpngdaa
open Go.RowKit
open Fr (Rec secB valL lenV)

variable {P Q : Nat → Prop} {w w' : World} {B d f v : Nat} {fu : Fu} {s : Dk} {l : Lg}

/-- A log that was opened, and its records. -/
def OpenedP (w : World) (B : Nat) (P : Nat → Prop) (d f : Nat) (s' : Dk) (fu' : Fu) (l : Lg) (e : Ending) (w' : World) : Prop :=
  ∃ P' v ra rc, e = .returned (.tuple #[.pointer (some ⟨v, 0, none⟩), .slice ra l.list.length rc, .int .i64 0]) ∧ WalP w' B P' d f s' fu' v l ∧ w'.ownsRow w.heap.size 9 1 (.slice ra l.list.length rc) l.list.length (strs l.list) ∧ w.heap.size ≤ v ∧ (∀ k, P' k → P k ∨ w.heap.size ≤ k) ∧ (∀ g, (Value.slice ra l.list.length rc).ownBlock = some g → ¬ P' g ∧ g ≠ v) ∧ Kept P w w'
/-- No log: a call of the disk failed. -/
def HaltedP (w : World) (B : Nat) (P : Nat → Prop) (d f : Nat) (s' : Dk) (fu' : Fu) (e : Ending) (w' : World) : Prop :=
  e = .returned (.tuple #[.pointer none, .slice none 0 0, .int .i64 2]) ∧ ∃ P', Dsk w' B P' d f s' fu' ∧ (∀ k, P' k → P k ∨ w.heap.size ≤ k) ∧ Kept P w w'

theorem WalP.fresh (h : Dsk w B P d f s fu) (hBw : B ≤ w.heap.size) : WalP (w.alloc (.cells #[.pointer (some ⟨d, 0, none⟩), .int .i64 0, .int .i64 0, .int .i64 0, .bool false] 70)) B P d f s fu w.heap.size ⟨0, 0, [], false⟩ :=
  ⟨h.alloc _, heap_alloc_new w _, fun hp => by have := (h.lt _ hp).2; omega, hBw⟩
theorem WalP.put12 (h : WalP w B P d f s fu v l) (a g : Nat) (x y : Int) (hx : x = (a : Int)) (hy : y = (g : Int)) : WalP ((w.setCell ⟨v, 1, none⟩ (.int .i64 x)).setCell ⟨v, 2, none⟩ (.int .i64 y)) B P d f s fu v { l with area := a, gen := g } := by
  subst hx hy
  exact ⟨(h.dsk.beside h.pv 1 _).beside h.pv 2 _, (h.log.set1 a).set2 g, h.pv, h.bv⟩
theorem WalP.put2 (h : WalP w B P d f s fu v l) (g : Nat) (y : Int) (hy : y = (g : Int)) : WalP (w.setCell ⟨v, 2, none⟩ (.int .i64 y)) B P d f s fu v { l with gen := g } := by
  subst hy
  exact ⟨h.dsk.beside h.pv 2 _, h.log.set2 g, h.pv, h.bv⟩
theorem WalP.put3 (h : WalP w B P d f s fu v l) (L : List ByteArray) (y : Int) (hy : y = (L.length : Int)) : WalP (w.setCell ⟨v, 3, none⟩ (.int .i64 y)) B P d f s fu v { l with list := L } :=
  ⟨h.dsk.beside h.pv 3 _, h.log.set3 L y hy, h.pv, h.bv⟩
theorem Kept.new {v : Nat} (h : Kept P w w') (hv : w.heap.size ≤ v) (i : Nat) (u : Value) : Kept P w (w'.setCell ⟨v, i, none⟩ u) := h.setCell (a := ⟨v, i, none⟩) (fun hlt => absurd hlt (by show ¬ v < w.heap.size; omega)) u
theorem own_beside {n i : Nat} {u x : Value} {xs : List Value} {c : Array Value} (hv : w.heap[v]? = some (.cells c 70 (0, 0))) (h : w.ownsRow B 9 1 u n xs) : (w.setCell ⟨v, i, none⟩ x).ownsRow B 9 1 u n xs :=
  own_other h fun k hk => by
    obtain ⟨cur, hc⟩ := own_type h hk
    exact Below.heap_setCell w ⟨v, i, none⟩ _ k (ne_of_type hc hv (by decide))
theorem own_rebase {B' n : Nat} {u : Value} {xs : List Value} (h : w.ownsRow B 9 1 u n xs) (hB : B' ≤ B) : w.ownsRow B' 9 1 u n xs := by
  refine ⟨h.1, h.2.imp id ?_⟩
  rintro ⟨g, cap, cur, h1, h2, h3⟩
  exact ⟨g, cap, cur, h1, Nat.le_trans hB h2, h3⟩
theorem flush_big (h : s.Big) : s.flush.Big := ⟨h.size, h.len⟩

set_option maxRecDepth 20000 in
set_option maxHeartbeats 2000000 in
theorem popen_one (h : Dsk w B P d f s fu) (hbig : s.Big) (hop : s.opn.length = 0) (hBw : B ≤ w.heap.size) (h1 : headG ((s).at 0) < headG ((s).at (s).half)) :
    Calls Try.prog 13 #[.pointer (some ⟨d, 0, none⟩)] w (OpenedP w B P d f (s) (fu) ⟨1, headG ((s).at (s).half), recs (s).now ((s).half) (headG ((s).at (s).half)) ((s).half - 1) 1, false⟩) := by
  have HO := Lib.hid (open_D h)
  rw [hop] at HO
  have HBW := Lib.hid hBw
  have HD := Lib.hid h
  have HBIG : Hid ((s).Big) := Lib.hid hbig
  obtain ⟨G, hG⟩ : ∃ G, G = headG ((s).at (s).half) := ⟨_, rfl⟩
  obtain ⟨X, hX⟩ : ∃ X, X = recs (s).now ((s).half) (headG ((s).at (s).half)) ((s).half - 1) 1 := ⟨_, rfl⟩
  have HX : Hid (X = recs (s).now (1 * (s).half) G ((s).half - 1) 1) := Lib.hid (by rw [hX, hG]; congr 1; omega)
  have hGl := headG_lt ((s).at (s).half)
  rw [← hX, ← hG]
  rw [← hG] at hGl
  have e0 : ((G : Int) == 0) = false := by simp; omega
  have H1 := Lib.hid h1
  have HG := Lib.hid hG
  have HN : Hid (∀ W Q v l, WalP W B Q d f (s) (fu) v l → Calls Try.prog 35 #[.pointer (some ⟨v, 0, none⟩)] W fun e w' => e = .returned (.tuple #[.int .i64 1, .int .i64 (G : Int)]) ∧ Below W.heap.size W w') := Lib.hid (fun W Q v l hW => by rw [HG.out]; exact newest_one hW H1.out)
  clear h hbig hBw hop h1 hG hX
  go_enter Try.func13, Try.ntmps13
  go_wp2_with fail
  refine HO.out.mono ?_
  rintro e w' ⟨rfl, rfl⟩
  have HKA : Hid (Kept P w w) := Lib.hid (Kept.refl _ _)
  have HDA := HD
  have HBA := HBW
  go_wp2_with fail
  refine (HN.out _ P _ _ (WalP.fresh HDA.out HBA.out)).mono ?_
  rintro e w2 ⟨rfl, hb2⟩
  have HW2 := Lib.hid ((WalP.fresh HDA.out HBA.out).under hb2)
  have HK2 : Hid (Kept P w w2) := Lib.hid ((HKA.out.alloc _).same (Kept.ofBelow hb2))
  have HS2 : Hid (w.heap.size < w2.heap.size) := Lib.hid (by have := hb2.size; simp at this; omega)
  clear hb2
  have c1 := HW2.out.log.c1
  have c2 := HW2.out.log.c2
  have f1 := HW2.out.log.fr 1
  have f2 := HW2.out.log.fr 2
  obtain ⟨vv, hvv⟩ : ∃ vv, vv = w.heap.size := ⟨_, rfl⟩
  have HSA : Hid (w.heap.size ≤ vv) := Lib.hid (by rw [hvv]; exact HKA.out.size)
  rw [← hvv] at c1 c2 f1 f2 HW2 HS2 ⊢
  clear hvv
  go_wp2_with fail
  have HW3 := Lib.hid (HW2.out.put12 1 G 1 (G : Int) (by rfl) rfl)
  have HK3 := Lib.hid ((HK2.out.new HSA.out 1 (.int .i64 1)).new HSA.out 2 (.int .i64 (G : Int)))
  clear c1 c2 f1 f2
  obtain ⟨W3, hW3⟩ : ∃ W3, W3 = (w2.setCell ⟨vv, 1, none⟩ (.int .i64 1)).setCell ⟨vv, 2, none⟩ (.int .i64 (G : Int)) := ⟨_, rfl⟩
  rw [← hW3] at HW3 HK3 ⊢
  clear hW3
  go_wp2_with fail
  refine (records_any HW3.out (by first | exact Nat.le_refl 1 | exact Nat.zero_le 1) HBIG.out X HX.out).mono ?_
  rintro e w4 ⟨ra, rc, rfl, ho, hb4⟩
  have HW4 := Lib.hid (HW3.out.under hb4)
  have HK4 := Lib.hid (HK3.out.same (Kept.ofBelow hb4))
  have HO4 := Lib.hid ho
  have HV4 := Lib.hid (fun k hk => (HW3.out.lt k hk).2)
  have HZ4 : Hid (w.heap.size ≤ _) := Lib.hid HK3.out.size
  clear hb4 ho
  have c3 := HW4.out.log.c3
  have f3 := HW4.out.log.fr 3
  go_wp2
  go_ret3
  have h3 := HW4.out.put3 X (X.length : Int) rfl
  refine ⟨P, vv, ra, rc, rfl, h3, own_beside HW4.out.log (own_rebase HO4.out HZ4.out), HSA.out, fun k hk => .inl hk, fun g hg => ?_, HK4.out.new HSA.out 3 _⟩
  have hge := own_base HO4.out hg
  exact ⟨fun hp => by have := HV4.out g (.inl hp); omega, fun hv => by have := HV4.out g (.inr hv); omega⟩

set_option maxRecDepth 20000 in
set_option maxHeartbeats 2000000 in
theorem popen_nought (h : Dsk w B P d f s fu) (hbig : s.Big) (hop : s.opn.length = 0) (hBw : B ≤ w.heap.size) (h0 : headG ((s).at 0) ≠ 0) (h1 : ¬ headG ((s).at 0) < headG ((s).at (s).half)) :
    Calls Try.prog 13 #[.pointer (some ⟨d, 0, none⟩)] w (OpenedP w B P d f (s) (fu) ⟨0, headG ((s).at 0), recs (s).now (0) (headG ((s).at 0)) ((s).half - 1) 1, false⟩) := by
  have HO := Lib.hid (open_D h)
  rw [hop] at HO
  have HBW := Lib.hid hBw
  have HD := Lib.hid h
  have HBIG : Hid ((s).Big) := Lib.hid hbig
  obtain ⟨G, hG⟩ : ∃ G, G = headG ((s).at 0) := ⟨_, rfl⟩
  obtain ⟨X, hX⟩ : ∃ X, X = recs (s).now (0) (headG ((s).at 0)) ((s).half - 1) 1 := ⟨_, rfl⟩
  have HX : Hid (X = recs (s).now (0 * (s).half) G ((s).half - 1) 1) := Lib.hid (by rw [hX, hG]; congr 1; omega)
  have hGl := headG_lt ((s).at 0)
  rw [← hX, ← hG]
  rw [← hG] at hGl
  have e0 : ((G : Int) == 0) = false := by simp; omega
  have H1 := Lib.hid h1
  have HG := Lib.hid hG
  have HN : Hid (∀ W Q v l, WalP W B Q d f (s) (fu) v l → Calls Try.prog 35 #[.pointer (some ⟨v, 0, none⟩)] W fun e w' => e = .returned (.tuple #[.int .i64 0, .int .i64 (G : Int)]) ∧ Below W.heap.size W w') := Lib.hid (fun W Q v l hW => by rw [HG.out]; exact newest_nought hW H1.out)
  clear h hbig hBw hop h0 h1 hG hX
  go_enter Try.func13, Try.ntmps13
  go_wp2_with fail
  refine HO.out.mono ?_
  rintro e w' ⟨rfl, rfl⟩
  have HKA : Hid (Kept P w w) := Lib.hid (Kept.refl _ _)
  have HDA := HD
  have HBA := HBW
  go_wp2_with fail
  refine (HN.out _ P _ _ (WalP.fresh HDA.out HBA.out)).mono ?_
  rintro e w2 ⟨rfl, hb2⟩
  have HW2 := Lib.hid ((WalP.fresh HDA.out HBA.out).under hb2)
  have HK2 : Hid (Kept P w w2) := Lib.hid ((HKA.out.alloc _).same (Kept.ofBelow hb2))
  have HS2 : Hid (w.heap.size < w2.heap.size) := Lib.hid (by have := hb2.size; simp at this; omega)
  clear hb2
  have c1 := HW2.out.log.c1
  have c2 := HW2.out.log.c2
  have f1 := HW2.out.log.fr 1
  have f2 := HW2.out.log.fr 2
  obtain ⟨vv, hvv⟩ : ∃ vv, vv = w.heap.size := ⟨_, rfl⟩
  have HSA : Hid (w.heap.size ≤ vv) := Lib.hid (by rw [hvv]; exact HKA.out.size)
  rw [← hvv] at c1 c2 f1 f2 HW2 HS2 ⊢
  clear hvv
  go_wp2_with fail
  have HW3 := Lib.hid (HW2.out.put12 0 G 0 (G : Int) (by rfl) rfl)
  have HK3 := Lib.hid ((HK2.out.new HSA.out 1 (.int .i64 0)).new HSA.out 2 (.int .i64 (G : Int)))
  clear c1 c2 f1 f2
  obtain ⟨W3, hW3⟩ : ∃ W3, W3 = (w2.setCell ⟨vv, 1, none⟩ (.int .i64 0)).setCell ⟨vv, 2, none⟩ (.int .i64 (G : Int)) := ⟨_, rfl⟩
  rw [← hW3] at HW3 HK3 ⊢
  clear hW3
  go_wp2_with fail
  refine (records_any HW3.out (by first | exact Nat.le_refl 1 | exact Nat.zero_le 1) HBIG.out X HX.out).mono ?_
  rintro e w4 ⟨ra, rc, rfl, ho, hb4⟩
  have HW4 := Lib.hid (HW3.out.under hb4)
  have HK4 := Lib.hid (HK3.out.same (Kept.ofBelow hb4))
  have HO4 := Lib.hid ho
  have HV4 := Lib.hid (fun k hk => (HW3.out.lt k hk).2)
  have HZ4 : Hid (w.heap.size ≤ _) := Lib.hid HK3.out.size
  clear hb4 ho
  have c3 := HW4.out.log.c3
  have f3 := HW4.out.log.fr 3
  go_wp2
  go_ret3
  have h3 := HW4.out.put3 X (X.length : Int) rfl
  refine ⟨P, vv, ra, rc, rfl, h3, own_beside HW4.out.log (own_rebase HO4.out HZ4.out), HSA.out, fun k hk => .inl hk, fun g hg => ?_, HK4.out.new HSA.out 3 _⟩
  have hge := own_base HO4.out hg
  exact ⟨fun hp => by have := HV4.out g (.inl hp); omega, fun hv => by have := HV4.out g (.inr hv); omega⟩

set_option maxRecDepth 20000 in
set_option maxHeartbeats 2000000 in
theorem popen_ok (h : Dsk w B P d f s fu) (hbig : s.Big) (hop : s.opn.length = 0) (hc : fu.count < 800000) (hBw : B ≤ w.heap.size) (h0 : headG ((s).at 0) = 0) (h1 : headG ((s).at (s).half) = 0) (hlay : layOk (fu) = true) :
    Calls Try.prog 13 #[.pointer (some ⟨d, 0, none⟩)] w (OpenedP w B P d f (layS (s) (fu) 0 (secB 1 0 headT (s).size)) (layF (fu)) ⟨0, 1, recs (layS (s) (fu) 0 (secB 1 0 headT (s).size)).now 0 1 ((s).half - 1) 1, false⟩) := by
  have HO := Lib.hid (open_D h)
  rw [hop] at HO
  have HBW := Lib.hid hBw
  have HD := Lib.hid h
  have HBIG0 : Hid ((s).Big) := Lib.hid hbig
  obtain ⟨S2, hS2⟩ : ∃ S2, S2 = layS (s) (fu) 0 (secB 1 0 headT (s).size) := ⟨_, rfl⟩
  have H0 := Lib.hid h0
  have H1 := Lib.hid h1
  have HLY := Lib.hid hlay
  have HS2E := Lib.hid hS2
  obtain ⟨X, hX⟩ : ∃ X, X = recs (layS (s) (fu) 0 (secB 1 0 headT (s).size)).now 0 1 ((s).half - 1) 1 := ⟨_, rfl⟩
  have HBIG : Hid (S2.Big) := Lib.hid (by rw [HS2E.out]; exact layS_big _ _ _ HBIG0.out)
  have HX : Hid (X = recs S2.now (0 * S2.half) 1 (S2.half - 1) 1) := Lib.hid (by rw [hX, HS2E.out, layS_half, Nat.zero_mul])
  rw [← hX, ← hS2]
  have HN : Hid (∀ W Q v l, WalP W B Q d f (s) (fu) v l → Calls Try.prog 35 #[.pointer (some ⟨v, 0, none⟩)] W fun e w' => e = .returned (.tuple #[.int .i64 0, .int .i64 0]) ∧ Below W.heap.size W w') := Lib.hid (fun W Q v l hW => by
    have hh := newest_nought hW (by rw [H0.out, H1.out]; omega)
    rw [H0.out] at hh
    exact hh)
  have HL : Hid (∀ W Q v l wd, WalP W B Q d f (s) (fu) v l → l.broken = false → B ≤ W.heap.size → Alike wd W → Calls Try.prog 36 #[.pointer (some ⟨v, 0, none⟩), .int .i64 0, .int .i64 1, .int .i64 0, .string headT] wd fun e w' => e = .returned (.bool true) ∧ ∃ P', Hid (WalP w' B P' d f S2 (layF (fu)) v l ∧ (∀ k, P' k → Q k ∨ W.heap.size ≤ k) ∧ Kept (fun k => Q k ∨ k = v) W w')) := Lib.hid (fun W Q v l wd hW hbk hB hd => by
    have hh := play_here hd 0 1 0 0 headT hW hbk HBIG0.out (by omega) (by omega) (by rw [headT_size]; have := HBIG0.out.size; omega) (by omega) (by simp) (by have := hW.dsk.good.n0; omega) (by omega) (by rw [hop]; omega) hB
    rw [HLY.out, ← HS2E.out] at hh
    exact hh)
  clear h hbig hBw hc hop h0 h1 hlay hS2 hX
  go_enter Try.func13, Try.ntmps13
  go_wp2_with fail
  refine HO.out.mono ?_
  rintro e w' ⟨rfl, rfl⟩
  have HKA : Hid (Kept P w w) := Lib.hid (Kept.refl _ _)
  have HDA := HD
  have HBA := HBW
  go_wp2_with fail
  refine (HN.out _ P _ _ (WalP.fresh HDA.out HBA.out)).mono ?_
  rintro e w2 ⟨rfl, hb2⟩
  have HW2 := Lib.hid ((WalP.fresh HDA.out HBA.out).under hb2)
  have HK2 : Hid (Kept P w w2) := Lib.hid ((HKA.out.alloc _).same (Kept.ofBelow hb2))
  have HS2 : Hid (w.heap.size < w2.heap.size) := Lib.hid (by have := hb2.size; simp at this; omega)
  clear hb2
  have c1 := HW2.out.log.c1
  have c2 := HW2.out.log.c2
  have f1 := HW2.out.log.fr 1
  have f2 := HW2.out.log.fr 2
  obtain ⟨vv, hvv⟩ : ∃ vv, vv = w.heap.size := ⟨_, rfl⟩
  have HSA : Hid (w.heap.size ≤ vv) := Lib.hid (by rw [hvv]; exact HKA.out.size)
  rw [← hvv] at c1 c2 f1 f2 HW2 HS2 ⊢
  clear hvv
  go_upto_region 7 with (fail)
  have HW3 := Lib.hid ((HW2.out.put12 0 0 0 0 (by rfl) (by rfl)).put2 1 1 (by rfl))
  have HK3 := Lib.hid (((HK2.out.new HSA.out 1 (.int .i64 0)).new HSA.out 2 (.int .i64 0)).new HSA.out 2 (.int .i64 1))
  clear c1 c2 f1 f2
  obtain ⟨W3, hW3⟩ : ∃ W3, W3 = ((w2.setCell ⟨vv, 1, none⟩ (.int .i64 0)).setCell ⟨vv, 2, none⟩ (.int .i64 0)).setCell ⟨vv, 2, none⟩ (.int .i64 1) := ⟨_, rfl⟩
  rw [← hW3] at HW3 HK3 ⊢
  clear hW3
  have HB3 : Hid (B ≤ W3.heap.size) := Lib.hid (Nat.le_trans HBW.out HK3.out.size)
  have c1 := HW3.out.log.c1
  have c2 := HW3.out.log.c2
  go_wp2_with fail
  go_region_held3 (fun wx => wx.cell? ⟨vv, 1, none⟩ = some (.int .i64 0) ∧ wx.cell? ⟨vv, 2, none⟩ = some (.int .i64 1)) (first | exact ⟨c1, c2⟩ | exact ⟨q1, q2⟩)
    (first | (go_at_call 36; refine (HL.out W3 P vv _ _ HW3.out rfl HB3.out ?_).mono ?_; (exact ⟨rfl, rfl, rfl, rfl⟩); rintro e w5 ⟨rfl, P5, H5⟩; have q1 := H5.out.1.log.c1; have q2 := H5.out.1.log.c2))
  clear c1 c2 q1 q2
  have HK5 : Hid (Kept P w w5) := Lib.hid (HK3.out.trans H5.out.2.2 (fun k hk h => h.elim id (fun h => by have := HSA.out; exact absurd hk (by omega))))
  have HP5 : Hid (∀ k, P5 k → P k ∨ w.heap.size ≤ k) := Lib.hid (fun k hk => (H5.out.2.1 k hk).imp id (Nat.le_trans HK3.out.size))
  clear HK3 HW3
  have HK3 := HK5
  have HW3 := Lib.hid H5.out.1
  go_wp2_with fail
  refine (records_any HW3.out (by first | exact Nat.le_refl 1 | exact Nat.zero_le 1) HBIG.out X HX.out).mono ?_
  rintro e w4 ⟨ra, rc, rfl, ho, hb4⟩
  have HW4 := Lib.hid (HW3.out.under hb4)
  have HK4 := Lib.hid (HK3.out.same (Kept.ofBelow hb4))
  have HO4 := Lib.hid ho
  have HV4 := Lib.hid (fun k hk => (HW3.out.lt k hk).2)
  have HZ4 : Hid (w.heap.size ≤ _) := Lib.hid HK3.out.size
  clear hb4 ho
  have c3 := HW4.out.log.c3
  have f3 := HW4.out.log.fr 3
  go_wp2
  go_ret3
  have h3 := HW4.out.put3 X (X.length : Int) rfl
  refine ⟨P5, vv, ra, rc, rfl, h3, own_beside HW4.out.log (own_rebase HO4.out HZ4.out), HSA.out, HP5.out, fun g hg => ?_, HK4.out.new HSA.out 3 _⟩
  have hge := own_base HO4.out hg
  exact ⟨fun hp => by have := HV4.out g (.inl hp); omega, fun hv => by have := HV4.out g (.inr hv); omega⟩

set_option maxRecDepth 20000 in
set_option maxHeartbeats 2000000 in
theorem popen_no (h : Dsk w B P d f s fu) (hbig : s.Big) (hop : s.opn.length = 0) (hc : fu.count < 800000) (hBw : B ≤ w.heap.size) (h0 : headG ((s).at 0) = 0) (h1 : headG ((s).at (s).half) = 0) (hlay : layOk (fu) = false) :
    Calls Try.prog 13 #[.pointer (some ⟨d, 0, none⟩)] w (HaltedP w B P d f (layS (s) (fu) 0 (secB 1 0 headT (s).size)) (layF (fu))) := by
  have HO := Lib.hid (open_D h)
  rw [hop] at HO
  have HBW := Lib.hid hBw
  have HD := Lib.hid h
  have HBIG0 : Hid ((s).Big) := Lib.hid hbig
  obtain ⟨S2, hS2⟩ : ∃ S2, S2 = layS (s) (fu) 0 (secB 1 0 headT (s).size) := ⟨_, rfl⟩
  have H0 := Lib.hid h0
  have H1 := Lib.hid h1
  have HLY := Lib.hid hlay
  have HS2E := Lib.hid hS2
  rw [← hS2]
  have HN : Hid (∀ W Q v l, WalP W B Q d f (s) (fu) v l → Calls Try.prog 35 #[.pointer (some ⟨v, 0, none⟩)] W fun e w' => e = .returned (.tuple #[.int .i64 0, .int .i64 0]) ∧ Below W.heap.size W w') := Lib.hid (fun W Q v l hW => by
    have hh := newest_nought hW (by rw [H0.out, H1.out]; omega)
    rw [H0.out] at hh
    exact hh)
  have HL : Hid (∀ W Q v l wd, WalP W B Q d f (s) (fu) v l → l.broken = false → B ≤ W.heap.size → Alike wd W → Calls Try.prog 36 #[.pointer (some ⟨v, 0, none⟩), .int .i64 0, .int .i64 1, .int .i64 0, .string headT] wd fun e w' => e = .returned (.bool false) ∧ ∃ P', Hid (WalP w' B P' d f S2 (layF (fu)) v { l with broken := true } ∧ (∀ k, P' k → Q k ∨ W.heap.size ≤ k) ∧ Kept (fun k => Q k ∨ k = v) W w')) := Lib.hid (fun W Q v l wd hW hbk hB hd => by
    have hh := play_here hd 0 1 0 0 headT hW hbk HBIG0.out (by omega) (by omega) (by rw [headT_size]; have := HBIG0.out.size; omega) (by omega) (by simp) (by have := hW.dsk.good.n0; omega) (by omega) (by rw [hop]; omega) hB
    rw [HLY.out, ← HS2E.out] at hh
    exact hh)
  clear h hbig hBw hc hop h0 h1 hlay hS2
  go_enter Try.func13, Try.ntmps13
  go_wp2_with fail
  refine HO.out.mono ?_
  rintro e w' ⟨rfl, rfl⟩
  have HKA : Hid (Kept P w w) := Lib.hid (Kept.refl _ _)
  have HDA := HD
  have HBA := HBW
  go_wp2_with fail
  refine (HN.out _ P _ _ (WalP.fresh HDA.out HBA.out)).mono ?_
  rintro e w2 ⟨rfl, hb2⟩
  have HW2 := Lib.hid ((WalP.fresh HDA.out HBA.out).under hb2)
  have HK2 : Hid (Kept P w w2) := Lib.hid ((HKA.out.alloc _).same (Kept.ofBelow hb2))
  have HS2 : Hid (w.heap.size < w2.heap.size) := Lib.hid (by have := hb2.size; simp at this; omega)
  clear hb2
  have c1 := HW2.out.log.c1
  have c2 := HW2.out.log.c2
  have f1 := HW2.out.log.fr 1
  have f2 := HW2.out.log.fr 2
  obtain ⟨vv, hvv⟩ : ∃ vv, vv = w.heap.size := ⟨_, rfl⟩
  have HSA : Hid (w.heap.size ≤ vv) := Lib.hid (by rw [hvv]; exact HKA.out.size)
  rw [← hvv] at c1 c2 f1 f2 HW2 HS2 ⊢
  clear hvv
  go_upto_region 7 with (fail)
  have HW3 := Lib.hid ((HW2.out.put12 0 0 0 0 (by rfl) (by rfl)).put2 1 1 (by rfl))
  have HK3 := Lib.hid (((HK2.out.new HSA.out 1 (.int .i64 0)).new HSA.out 2 (.int .i64 0)).new HSA.out 2 (.int .i64 1))
  clear c1 c2 f1 f2
  obtain ⟨W3, hW3⟩ : ∃ W3, W3 = ((w2.setCell ⟨vv, 1, none⟩ (.int .i64 0)).setCell ⟨vv, 2, none⟩ (.int .i64 0)).setCell ⟨vv, 2, none⟩ (.int .i64 1) := ⟨_, rfl⟩
  rw [← hW3] at HW3 HK3 ⊢
  clear hW3
  have HB3 : Hid (B ≤ W3.heap.size) := Lib.hid (Nat.le_trans HBW.out HK3.out.size)
  have c1 := HW3.out.log.c1
  have c2 := HW3.out.log.c2
  go_wp2_with fail
  go_region_held3 (fun wx => wx.cell? ⟨vv, 1, none⟩ = some (.int .i64 0) ∧ wx.cell? ⟨vv, 2, none⟩ = some (.int .i64 1)) (first | exact ⟨c1, c2⟩ | exact ⟨q1, q2⟩)
    (first | (go_at_call 36; refine (HL.out W3 P vv _ _ HW3.out rfl HB3.out ?_).mono ?_; (exact ⟨rfl, rfl, rfl, rfl⟩); rintro e w5 ⟨rfl, P5, H5⟩; have q1 := H5.out.1.log.c1; have q2 := H5.out.1.log.c2))
  clear c1 c2 q1 q2
  go_wp2
  go_ret3
  refine ⟨rfl, P5, H5.out.1.dsk, fun k hk => (H5.out.2.1 k hk).imp id (Nat.le_trans HK3.out.size), HK3.out.trans H5.out.2.2 (fun k hk h => h.elim id (fun h => by have := HSA.out; exact absurd hk (by omega)))⟩

set_option maxRecDepth 20000 in
set_option maxHeartbeats 2000000 in
theorem popen_oneF (h : Dsk w B P d f s fu) (hbig : s.Big) (hop : 0 < s.opn.length) (hop2 : s.opn.length < 800000) (hok : fu.ok = true) (hc : fu.count < 800000) (hBw : B ≤ w.heap.size) (h1 : headG ((s.flush).at 0) < headG ((s.flush).at (s.flush).half)) :
    Calls Try.prog 13 #[.pointer (some ⟨d, 0, none⟩)] w (OpenedP w B P d f (s.flush) (fu.spent) ⟨1, headG ((s.flush).at (s.flush).half), recs (s.flush).now ((s.flush).half) (headG ((s.flush).at (s.flush).half)) ((s.flush).half - 1) 1, false⟩) := by
  have HO := Lib.hid (open_D h)
  obtain ⟨no, hno⟩ : ∃ no, no = s.opn.length := ⟨_, rfl⟩
  rw [← hno] at HO hop hop2
  have HF := Lib.hid (flush_D h (by omega) (by rw [← hno]; omega))
  rw [show fcode fu = 0 from by unfold fcode; rw [hok]; rfl, show fstate s fu = s.flush from by unfold fstate; rw [hok]; rfl] at HF
  have HBW := Lib.hid hBw
  clear hno
  have HBIG : Hid ((s.flush).Big) := Lib.hid (flush_big hbig)
  obtain ⟨G, hG⟩ : ∃ G, G = headG ((s.flush).at (s.flush).half) := ⟨_, rfl⟩
  obtain ⟨X, hX⟩ : ∃ X, X = recs (s.flush).now ((s.flush).half) (headG ((s.flush).at (s.flush).half)) ((s.flush).half - 1) 1 := ⟨_, rfl⟩
  have HX : Hid (X = recs (s.flush).now (1 * (s.flush).half) G ((s.flush).half - 1) 1) := Lib.hid (by rw [hX, hG]; congr 1; omega)
  have hGl := headG_lt ((s.flush).at (s.flush).half)
  rw [← hX, ← hG]
  rw [← hG] at hGl
  have e0 : ((G : Int) == 0) = false := by simp; omega
  have H1 := Lib.hid h1
  have HG := Lib.hid hG
  have HN : Hid (∀ W Q v l, WalP W B Q d f (s.flush) (fu.spent) v l → Calls Try.prog 35 #[.pointer (some ⟨v, 0, none⟩)] W fun e w' => e = .returned (.tuple #[.int .i64 1, .int .i64 (G : Int)]) ∧ Below W.heap.size W w') := Lib.hid (fun W Q v l hW => by rw [HG.out]; exact newest_one hW H1.out)
  clear h hbig hBw hc hop2 hok h1 hG hX
  go_enter Try.func13, Try.ntmps13
  go_wp2_with fail
  refine HO.out.mono ?_
  rintro e w' ⟨rfl, rfl⟩
  go_wp2_with fail
  refine HF.out.mono ?_
  rintro e wA ⟨rfl, hd, hk⟩
  have HDA := Lib.hid hd
  have HKA := Lib.hid hk
  have HBA := Lib.hid (Nat.le_trans HBW.out hk.size)
  clear hd hk
  go_wp2_with fail
  refine (HN.out _ P _ _ (WalP.fresh HDA.out HBA.out)).mono ?_
  rintro e w2 ⟨rfl, hb2⟩
  have HW2 := Lib.hid ((WalP.fresh HDA.out HBA.out).under hb2)
  have HK2 : Hid (Kept P w w2) := Lib.hid ((HKA.out.alloc _).same (Kept.ofBelow hb2))
  have HS2 : Hid (wA.heap.size < w2.heap.size) := Lib.hid (by have := hb2.size; simp at this; omega)
  clear hb2
  have c1 := HW2.out.log.c1
  have c2 := HW2.out.log.c2
  have f1 := HW2.out.log.fr 1
  have f2 := HW2.out.log.fr 2
  obtain ⟨vv, hvv⟩ : ∃ vv, vv = wA.heap.size := ⟨_, rfl⟩
  have HSA : Hid (w.heap.size ≤ vv) := Lib.hid (by rw [hvv]; exact HKA.out.size)
  rw [← hvv] at c1 c2 f1 f2 HW2 HS2 ⊢
  clear hvv
  go_wp2_with fail
  have HW3 := Lib.hid (HW2.out.put12 1 G 1 (G : Int) (by rfl) rfl)
  have HK3 := Lib.hid ((HK2.out.new HSA.out 1 (.int .i64 1)).new HSA.out 2 (.int .i64 (G : Int)))
  clear c1 c2 f1 f2
  obtain ⟨W3, hW3⟩ : ∃ W3, W3 = (w2.setCell ⟨vv, 1, none⟩ (.int .i64 1)).setCell ⟨vv, 2, none⟩ (.int .i64 (G : Int)) := ⟨_, rfl⟩
  rw [← hW3] at HW3 HK3 ⊢
  clear hW3
  go_wp2_with fail
  refine (records_any HW3.out (by first | exact Nat.le_refl 1 | exact Nat.zero_le 1) HBIG.out X HX.out).mono ?_
  rintro e w4 ⟨ra, rc, rfl, ho, hb4⟩
  have HW4 := Lib.hid (HW3.out.under hb4)
  have HK4 := Lib.hid (HK3.out.same (Kept.ofBelow hb4))
  have HO4 := Lib.hid ho
  have HV4 := Lib.hid (fun k hk => (HW3.out.lt k hk).2)
  have HZ4 : Hid (w.heap.size ≤ _) := Lib.hid HK3.out.size
  clear hb4 ho
  have c3 := HW4.out.log.c3
  have f3 := HW4.out.log.fr 3
  go_wp2
  go_ret3
  have h3 := HW4.out.put3 X (X.length : Int) rfl
  refine ⟨P, vv, ra, rc, rfl, h3, own_beside HW4.out.log (own_rebase HO4.out HZ4.out), HSA.out, fun k hk => .inl hk, fun g hg => ?_, HK4.out.new HSA.out 3 _⟩
  have hge := own_base HO4.out hg
  exact ⟨fun hp => by have := HV4.out g (.inl hp); omega, fun hv => by have := HV4.out g (.inr hv); omega⟩

set_option maxRecDepth 20000 in
set_option maxHeartbeats 2000000 in
theorem popen_noughtF (h : Dsk w B P d f s fu) (hbig : s.Big) (hop : 0 < s.opn.length) (hop2 : s.opn.length < 800000) (hok : fu.ok = true) (hc : fu.count < 800000) (hBw : B ≤ w.heap.size) (h0 : headG ((s.flush).at 0) ≠ 0) (h1 : ¬ headG ((s.flush).at 0) < headG ((s.flush).at (s.flush).half)) :
    Calls Try.prog 13 #[.pointer (some ⟨d, 0, none⟩)] w (OpenedP w B P d f (s.flush) (fu.spent) ⟨0, headG ((s.flush).at 0), recs (s.flush).now (0) (headG ((s.flush).at 0)) ((s.flush).half - 1) 1, false⟩) := by
  have HO := Lib.hid (open_D h)
  obtain ⟨no, hno⟩ : ∃ no, no = s.opn.length := ⟨_, rfl⟩
  rw [← hno] at HO hop hop2
  have HF := Lib.hid (flush_D h (by omega) (by rw [← hno]; omega))
  rw [show fcode fu = 0 from by unfold fcode; rw [hok]; rfl, show fstate s fu = s.flush from by unfold fstate; rw [hok]; rfl] at HF
  have HBW := Lib.hid hBw
  clear hno
  have HBIG : Hid ((s.flush).Big) := Lib.hid (flush_big hbig)
  obtain ⟨G, hG⟩ : ∃ G, G = headG ((s.flush).at 0) := ⟨_, rfl⟩
  obtain ⟨X, hX⟩ : ∃ X, X = recs (s.flush).now (0) (headG ((s.flush).at 0)) ((s.flush).half - 1) 1 := ⟨_, rfl⟩
  have HX : Hid (X = recs (s.flush).now (0 * (s.flush).half) G ((s.flush).half - 1) 1) := Lib.hid (by rw [hX, hG]; congr 1; omega)
  have hGl := headG_lt ((s.flush).at 0)
  rw [← hX, ← hG]
  rw [← hG] at hGl
  have e0 : ((G : Int) == 0) = false := by simp; omega
  have H1 := Lib.hid h1
  have HG := Lib.hid hG
  have HN : Hid (∀ W Q v l, WalP W B Q d f (s.flush) (fu.spent) v l → Calls Try.prog 35 #[.pointer (some ⟨v, 0, none⟩)] W fun e w' => e = .returned (.tuple #[.int .i64 0, .int .i64 (G : Int)]) ∧ Below W.heap.size W w') := Lib.hid (fun W Q v l hW => by rw [HG.out]; exact newest_nought hW H1.out)
  clear h hbig hBw hc hop2 hok h0 h1 hG hX
  go_enter Try.func13, Try.ntmps13
  go_wp2_with fail
  refine HO.out.mono ?_
  rintro e w' ⟨rfl, rfl⟩
  go_wp2_with fail
  refine HF.out.mono ?_
  rintro e wA ⟨rfl, hd, hk⟩
  have HDA := Lib.hid hd
  have HKA := Lib.hid hk
  have HBA := Lib.hid (Nat.le_trans HBW.out hk.size)
  clear hd hk
  go_wp2_with fail
  refine (HN.out _ P _ _ (WalP.fresh HDA.out HBA.out)).mono ?_
  rintro e w2 ⟨rfl, hb2⟩
  have HW2 := Lib.hid ((WalP.fresh HDA.out HBA.out).under hb2)
  have HK2 : Hid (Kept P w w2) := Lib.hid ((HKA.out.alloc _).same (Kept.ofBelow hb2))
  have HS2 : Hid (wA.heap.size < w2.heap.size) := Lib.hid (by have := hb2.size; simp at this; omega)
  clear hb2
  have c1 := HW2.out.log.c1
  have c2 := HW2.out.log.c2
  have f1 := HW2.out.log.fr 1
  have f2 := HW2.out.log.fr 2
  obtain ⟨vv, hvv⟩ : ∃ vv, vv = wA.heap.size := ⟨_, rfl⟩
  have HSA : Hid (w.heap.size ≤ vv) := Lib.hid (by rw [hvv]; exact HKA.out.size)
  rw [← hvv] at c1 c2 f1 f2 HW2 HS2 ⊢
  clear hvv
  go_wp2_with fail
  have HW3 := Lib.hid (HW2.out.put12 0 G 0 (G : Int) (by rfl) rfl)
  have HK3 := Lib.hid ((HK2.out.new HSA.out 1 (.int .i64 0)).new HSA.out 2 (.int .i64 (G : Int)))
  clear c1 c2 f1 f2
  obtain ⟨W3, hW3⟩ : ∃ W3, W3 = (w2.setCell ⟨vv, 1, none⟩ (.int .i64 0)).setCell ⟨vv, 2, none⟩ (.int .i64 (G : Int)) := ⟨_, rfl⟩
  rw [← hW3] at HW3 HK3 ⊢
  clear hW3
  go_wp2_with fail
  refine (records_any HW3.out (by first | exact Nat.le_refl 1 | exact Nat.zero_le 1) HBIG.out X HX.out).mono ?_
  rintro e w4 ⟨ra, rc, rfl, ho, hb4⟩
  have HW4 := Lib.hid (HW3.out.under hb4)
  have HK4 := Lib.hid (HK3.out.same (Kept.ofBelow hb4))
  have HO4 := Lib.hid ho
  have HV4 := Lib.hid (fun k hk => (HW3.out.lt k hk).2)
  have HZ4 : Hid (w.heap.size ≤ _) := Lib.hid HK3.out.size
  clear hb4 ho
  have c3 := HW4.out.log.c3
  have f3 := HW4.out.log.fr 3
  go_wp2
  go_ret3
  have h3 := HW4.out.put3 X (X.length : Int) rfl
  refine ⟨P, vv, ra, rc, rfl, h3, own_beside HW4.out.log (own_rebase HO4.out HZ4.out), HSA.out, fun k hk => .inl hk, fun g hg => ?_, HK4.out.new HSA.out 3 _⟩
  have hge := own_base HO4.out hg
  exact ⟨fun hp => by have := HV4.out g (.inl hp); omega, fun hv => by have := HV4.out g (.inr hv); omega⟩

set_option maxRecDepth 20000 in
set_option maxHeartbeats 2000000 in
theorem popen_okF (h : Dsk w B P d f s fu) (hbig : s.Big) (hop : 0 < s.opn.length) (hop2 : s.opn.length < 800000) (hok : fu.ok = true) (hc : fu.count < 800000) (hBw : B ≤ w.heap.size) (h0 : headG ((s.flush).at 0) = 0) (h1 : headG ((s.flush).at (s.flush).half) = 0) (hlay : layOk (fu.spent) = true) :
    Calls Try.prog 13 #[.pointer (some ⟨d, 0, none⟩)] w (OpenedP w B P d f (layS (s.flush) (fu.spent) 0 (secB 1 0 headT (s.flush).size)) (layF (fu.spent)) ⟨0, 1, recs (layS (s.flush) (fu.spent) 0 (secB 1 0 headT (s.flush).size)).now 0 1 ((s.flush).half - 1) 1, false⟩) := by
  have HO := Lib.hid (open_D h)
  obtain ⟨no, hno⟩ : ∃ no, no = s.opn.length := ⟨_, rfl⟩
  rw [← hno] at HO hop hop2
  have HF := Lib.hid (flush_D h (by omega) (by rw [← hno]; omega))
  rw [show fcode fu = 0 from by unfold fcode; rw [hok]; rfl, show fstate s fu = s.flush from by unfold fstate; rw [hok]; rfl] at HF
  have HBW := Lib.hid hBw
  clear hno
  have HBIG0 : Hid ((s.flush).Big) := Lib.hid (flush_big hbig)
  obtain ⟨S2, hS2⟩ : ∃ S2, S2 = layS (s.flush) (fu.spent) 0 (secB 1 0 headT (s.flush).size) := ⟨_, rfl⟩
  have H0 := Lib.hid h0
  have H1 := Lib.hid h1
  have HLY := Lib.hid hlay
  have HS2E := Lib.hid hS2
  obtain ⟨X, hX⟩ : ∃ X, X = recs (layS (s.flush) (fu.spent) 0 (secB 1 0 headT (s.flush).size)).now 0 1 ((s.flush).half - 1) 1 := ⟨_, rfl⟩
  have HBIG : Hid (S2.Big) := Lib.hid (by rw [HS2E.out]; exact layS_big _ _ _ HBIG0.out)
  have HX : Hid (X = recs S2.now (0 * S2.half) 1 (S2.half - 1) 1) := Lib.hid (by rw [hX, HS2E.out, layS_half, Nat.zero_mul])
  rw [← hX, ← hS2]
  have HN : Hid (∀ W Q v l, WalP W B Q d f (s.flush) (fu.spent) v l → Calls Try.prog 35 #[.pointer (some ⟨v, 0, none⟩)] W fun e w' => e = .returned (.tuple #[.int .i64 0, .int .i64 0]) ∧ Below W.heap.size W w') := Lib.hid (fun W Q v l hW => by
    have hh := newest_nought hW (by rw [H0.out, H1.out]; omega)
    rw [H0.out] at hh
    exact hh)
  have HL : Hid (∀ W Q v l wd, WalP W B Q d f (s.flush) (fu.spent) v l → l.broken = false → B ≤ W.heap.size → Alike wd W → Calls Try.prog 36 #[.pointer (some ⟨v, 0, none⟩), .int .i64 0, .int .i64 1, .int .i64 0, .string headT] wd fun e w' => e = .returned (.bool true) ∧ ∃ P', Hid (WalP w' B P' d f S2 (layF (fu.spent)) v l ∧ (∀ k, P' k → Q k ∨ W.heap.size ≤ k) ∧ Kept (fun k => Q k ∨ k = v) W w')) := Lib.hid (fun W Q v l wd hW hbk hB hd => by
    have hh := play_here hd 0 1 0 0 headT hW hbk HBIG0.out (by omega) (by omega) (by rw [headT_size]; have := HBIG0.out.size; omega) (by omega) (by simp) (by have := hW.dsk.good.n0; omega) (by have := fu.spent_count; omega) (by show (0 : Nat) < 900000; omega) hB
    rw [HLY.out, ← HS2E.out] at hh
    exact hh)
  clear h hbig hBw hc hop2 hok h0 h1 hlay hS2 hX
  go_enter Try.func13, Try.ntmps13
  go_wp2_with fail
  refine HO.out.mono ?_
  rintro e w' ⟨rfl, rfl⟩
  go_wp2_with fail
  refine HF.out.mono ?_
  rintro e wA ⟨rfl, hd, hk⟩
  have HDA := Lib.hid hd
  have HKA := Lib.hid hk
  have HBA := Lib.hid (Nat.le_trans HBW.out hk.size)
  clear hd hk
  go_wp2_with fail
  refine (HN.out _ P _ _ (WalP.fresh HDA.out HBA.out)).mono ?_
  rintro e w2 ⟨rfl, hb2⟩
  have HW2 := Lib.hid ((WalP.fresh HDA.out HBA.out).under hb2)
  have HK2 : Hid (Kept P w w2) := Lib.hid ((HKA.out.alloc _).same (Kept.ofBelow hb2))
  have HS2 : Hid (wA.heap.size < w2.heap.size) := Lib.hid (by have := hb2.size; simp at this; omega)
  clear hb2
  have c1 := HW2.out.log.c1
  have c2 := HW2.out.log.c2
  have f1 := HW2.out.log.fr 1
  have f2 := HW2.out.log.fr 2
  obtain ⟨vv, hvv⟩ : ∃ vv, vv = wA.heap.size := ⟨_, rfl⟩
  have HSA : Hid (w.heap.size ≤ vv) := Lib.hid (by rw [hvv]; exact HKA.out.size)
  rw [← hvv] at c1 c2 f1 f2 HW2 HS2 ⊢
  clear hvv
  go_upto_region 7 with (fail)
  have HW3 := Lib.hid ((HW2.out.put12 0 0 0 0 (by rfl) (by rfl)).put2 1 1 (by rfl))
  have HK3 := Lib.hid (((HK2.out.new HSA.out 1 (.int .i64 0)).new HSA.out 2 (.int .i64 0)).new HSA.out 2 (.int .i64 1))
  clear c1 c2 f1 f2
  obtain ⟨W3, hW3⟩ : ∃ W3, W3 = ((w2.setCell ⟨vv, 1, none⟩ (.int .i64 0)).setCell ⟨vv, 2, none⟩ (.int .i64 0)).setCell ⟨vv, 2, none⟩ (.int .i64 1) := ⟨_, rfl⟩
  rw [← hW3] at HW3 HK3 ⊢
  clear hW3
  have HB3 : Hid (B ≤ W3.heap.size) := Lib.hid (Nat.le_trans HBW.out HK3.out.size)
  have c1 := HW3.out.log.c1
  have c2 := HW3.out.log.c2
  go_wp2_with fail
  go_region_held3 (fun wx => wx.cell? ⟨vv, 1, none⟩ = some (.int .i64 0) ∧ wx.cell? ⟨vv, 2, none⟩ = some (.int .i64 1)) (first | exact ⟨c1, c2⟩ | exact ⟨q1, q2⟩)
    (first | (go_at_call 36; refine (HL.out W3 P vv _ _ HW3.out rfl HB3.out ?_).mono ?_; (exact ⟨rfl, rfl, rfl, rfl⟩); rintro e w5 ⟨rfl, P5, H5⟩; have q1 := H5.out.1.log.c1; have q2 := H5.out.1.log.c2))
  clear c1 c2 q1 q2
  have HK5 : Hid (Kept P w w5) := Lib.hid (HK3.out.trans H5.out.2.2 (fun k hk h => h.elim id (fun h => by have := HSA.out; exact absurd hk (by omega))))
  have HP5 : Hid (∀ k, P5 k → P k ∨ w.heap.size ≤ k) := Lib.hid (fun k hk => (H5.out.2.1 k hk).imp id (Nat.le_trans HK3.out.size))
  clear HK3 HW3
  have HK3 := HK5
  have HW3 := Lib.hid H5.out.1
  go_wp2_with fail
  refine (records_any HW3.out (by first | exact Nat.le_refl 1 | exact Nat.zero_le 1) HBIG.out X HX.out).mono ?_
  rintro e w4 ⟨ra, rc, rfl, ho, hb4⟩
  have HW4 := Lib.hid (HW3.out.under hb4)
  have HK4 := Lib.hid (HK3.out.same (Kept.ofBelow hb4))
  have HO4 := Lib.hid ho
  have HV4 := Lib.hid (fun k hk => (HW3.out.lt k hk).2)
  have HZ4 : Hid (w.heap.size ≤ _) := Lib.hid HK3.out.size
  clear hb4 ho
  have c3 := HW4.out.log.c3
  have f3 := HW4.out.log.fr 3
  go_wp2
  go_ret3
  have h3 := HW4.out.put3 X (X.length : Int) rfl
  refine ⟨P5, vv, ra, rc, rfl, h3, own_beside HW4.out.log (own_rebase HO4.out HZ4.out), HSA.out, HP5.out, fun g hg => ?_, HK4.out.new HSA.out 3 _⟩
  have hge := own_base HO4.out hg
  exact ⟨fun hp => by have := HV4.out g (.inl hp); omega, fun hv => by have := HV4.out g (.inr hv); omega⟩

set_option maxRecDepth 20000 in
set_option maxHeartbeats 2000000 in
theorem popen_noF (h : Dsk w B P d f s fu) (hbig : s.Big) (hop : 0 < s.opn.length) (hop2 : s.opn.length < 800000) (hok : fu.ok = true) (hc : fu.count < 800000) (hBw : B ≤ w.heap.size) (h0 : headG ((s.flush).at 0) = 0) (h1 : headG ((s.flush).at (s.flush).half) = 0) (hlay : layOk (fu.spent) = false) :
    Calls Try.prog 13 #[.pointer (some ⟨d, 0, none⟩)] w (HaltedP w B P d f (layS (s.flush) (fu.spent) 0 (secB 1 0 headT (s.flush).size)) (layF (fu.spent))) := by
  have HO := Lib.hid (open_D h)
  obtain ⟨no, hno⟩ : ∃ no, no = s.opn.length := ⟨_, rfl⟩
  rw [← hno] at HO hop hop2
  have HF := Lib.hid (flush_D h (by omega) (by rw [← hno]; omega))
  rw [show fcode fu = 0 from by unfold fcode; rw [hok]; rfl, show fstate s fu = s.flush from by unfold fstate; rw [hok]; rfl] at HF
  have HBW := Lib.hid hBw
  clear hno
  have HBIG0 : Hid ((s.flush).Big) := Lib.hid (flush_big hbig)
  obtain ⟨S2, hS2⟩ : ∃ S2, S2 = layS (s.flush) (fu.spent) 0 (secB 1 0 headT (s.flush).size) := ⟨_, rfl⟩
  have H0 := Lib.hid h0
  have H1 := Lib.hid h1
  have HLY := Lib.hid hlay
  have HS2E := Lib.hid hS2
  rw [← hS2]
  have HN : Hid (∀ W Q v l, WalP W B Q d f (s.flush) (fu.spent) v l → Calls Try.prog 35 #[.pointer (some ⟨v, 0, none⟩)] W fun e w' => e = .returned (.tuple #[.int .i64 0, .int .i64 0]) ∧ Below W.heap.size W w') := Lib.hid (fun W Q v l hW => by
    have hh := newest_nought hW (by rw [H0.out, H1.out]; omega)
    rw [H0.out] at hh
    exact hh)
  have HL : Hid (∀ W Q v l wd, WalP W B Q d f (s.flush) (fu.spent) v l → l.broken = false → B ≤ W.heap.size → Alike wd W → Calls Try.prog 36 #[.pointer (some ⟨v, 0, none⟩), .int .i64 0, .int .i64 1, .int .i64 0, .string headT] wd fun e w' => e = .returned (.bool false) ∧ ∃ P', Hid (WalP w' B P' d f S2 (layF (fu.spent)) v { l with broken := true } ∧ (∀ k, P' k → Q k ∨ W.heap.size ≤ k) ∧ Kept (fun k => Q k ∨ k = v) W w')) := Lib.hid (fun W Q v l wd hW hbk hB hd => by
    have hh := play_here hd 0 1 0 0 headT hW hbk HBIG0.out (by omega) (by omega) (by rw [headT_size]; have := HBIG0.out.size; omega) (by omega) (by simp) (by have := hW.dsk.good.n0; omega) (by have := fu.spent_count; omega) (by show (0 : Nat) < 900000; omega) hB
    rw [HLY.out, ← HS2E.out] at hh
    exact hh)
  clear h hbig hBw hc hop2 hok h0 h1 hlay hS2
  go_enter Try.func13, Try.ntmps13
  go_wp2_with fail
  refine HO.out.mono ?_
  rintro e w' ⟨rfl, rfl⟩
  go_wp2_with fail
  refine HF.out.mono ?_
  rintro e wA ⟨rfl, hd, hk⟩
  have HDA := Lib.hid hd
  have HKA := Lib.hid hk
  have HBA := Lib.hid (Nat.le_trans HBW.out hk.size)
  clear hd hk
  go_wp2_with fail
  refine (HN.out _ P _ _ (WalP.fresh HDA.out HBA.out)).mono ?_
  rintro e w2 ⟨rfl, hb2⟩
  have HW2 := Lib.hid ((WalP.fresh HDA.out HBA.out).under hb2)
  have HK2 : Hid (Kept P w w2) := Lib.hid ((HKA.out.alloc _).same (Kept.ofBelow hb2))
  have HS2 : Hid (wA.heap.size < w2.heap.size) := Lib.hid (by have := hb2.size; simp at this; omega)
  clear hb2
  have c1 := HW2.out.log.c1
  have c2 := HW2.out.log.c2
  have f1 := HW2.out.log.fr 1
  have f2 := HW2.out.log.fr 2
  obtain ⟨vv, hvv⟩ : ∃ vv, vv = wA.heap.size := ⟨_, rfl⟩
  have HSA : Hid (w.heap.size ≤ vv) := Lib.hid (by rw [hvv]; exact HKA.out.size)
  rw [← hvv] at c1 c2 f1 f2 HW2 HS2 ⊢
  clear hvv
  go_upto_region 7 with (fail)
  have HW3 := Lib.hid ((HW2.out.put12 0 0 0 0 (by rfl) (by rfl)).put2 1 1 (by rfl))
  have HK3 := Lib.hid (((HK2.out.new HSA.out 1 (.int .i64 0)).new HSA.out 2 (.int .i64 0)).new HSA.out 2 (.int .i64 1))
  clear c1 c2 f1 f2
  obtain ⟨W3, hW3⟩ : ∃ W3, W3 = ((w2.setCell ⟨vv, 1, none⟩ (.int .i64 0)).setCell ⟨vv, 2, none⟩ (.int .i64 0)).setCell ⟨vv, 2, none⟩ (.int .i64 1) := ⟨_, rfl⟩
  rw [← hW3] at HW3 HK3 ⊢
  clear hW3
  have HB3 : Hid (B ≤ W3.heap.size) := Lib.hid (Nat.le_trans HBW.out HK3.out.size)
  have c1 := HW3.out.log.c1
  have c2 := HW3.out.log.c2
  go_wp2_with fail
  go_region_held3 (fun wx => wx.cell? ⟨vv, 1, none⟩ = some (.int .i64 0) ∧ wx.cell? ⟨vv, 2, none⟩ = some (.int .i64 1)) (first | exact ⟨c1, c2⟩ | exact ⟨q1, q2⟩)
    (first | (go_at_call 36; refine (HL.out W3 P vv _ _ HW3.out rfl HB3.out ?_).mono ?_; (exact ⟨rfl, rfl, rfl, rfl⟩); rintro e w5 ⟨rfl, P5, H5⟩; have q1 := H5.out.1.log.c1; have q2 := H5.out.1.log.c2))
  clear c1 c2 q1 q2
  go_wp2
  go_ret3
  refine ⟨rfl, P5, H5.out.1.dsk, fun k hk => (H5.out.2.1 k hk).imp id (Nat.le_trans HK3.out.size), HK3.out.trans H5.out.2.2 (fun k hk h => h.elim id (fun h => by have := HSA.out; exact absurd hk (by omega)))⟩

set_option maxHeartbeats 1000000 in
theorem popen_halt (h : Dsk w B P d f s fu) (hop : 0 < s.opn.length) (hop2 : s.opn.length < 800000) (hok : fu.ok = false) (hc : fu.count < 800000) :
    Calls Try.prog 13 #[.pointer (some ⟨d, 0, none⟩)] w (HaltedP w B P d f s fu.spent) := by
  have HO := Lib.hid (open_D h)
  obtain ⟨no, hno⟩ : ∃ no, no = s.opn.length := ⟨_, rfl⟩
  rw [← hno] at HO hop hop2
  have HF := Lib.hid (flush_D h (by omega) (by rw [← hno]; omega))
  rw [show fcode fu = 2 from by unfold fcode; rw [hok]; rfl, show fstate s fu = s from by unfold fstate; rw [hok]; rfl] at HF
  clear hno h hok hc hop2
  go_enter Try.func13, Try.ntmps13
  go_wp2_with fail
  refine HO.out.mono ?_
  rintro e w' ⟨rfl, rfl⟩
  go_wp2_with fail
  refine HF.out.mono ?_
  rintro e wA ⟨rfl, hd, hk⟩
  go_wp2
  go_ret3
  exact ⟨rfl, P, hd, fun k hk => .inl hk, hk⟩

/-- What Open leaves. -/
def OpenPost (w : World) (B : Nat) (P : Nat → Prop) (d f : Nat) (r : Int × Dk × Fu × Option Lg) (e : Ending) (w' : World) : Prop := match r.2.2.2 with
  | some l => OpenedP w B P d f r.2.1 r.2.2.1 l e w'
  | none => HaltedP w B P d f r.2.1 r.2.2.1 e w'
/-- The program's Open, all ways. -/
theorem popen_W (h : Dsk w B P d f s fu) (hbig : s.Big) (hop : s.opn.length < 800000) (hc : fu.count < 800000) (hBw : B ≤ w.heap.size) :
    Calls Try.prog 13 #[.pointer (some ⟨d, 0, none⟩)] w (OpenPost w B P d f (openR s fu)) := by
  unfold openR
  by_cases ho : s.opn.length = 0
  · rw [if_pos ho]
    unfold opened
    by_cases hh : headG (s.at 0) = 0 ∧ headG (s.at s.half) = 0
    · rw [if_pos hh]
      cases hl : layOk fu with
      | true => exact popen_ok h hbig ho hc hBw hh.1 hh.2 hl
      | false => exact popen_no h hbig ho hc hBw hh.1 hh.2 hl
    · rw [if_neg hh]
      by_cases h1 : headG (s.at 0) < headG (s.at s.half)
      · rw [if_pos h1]
        exact popen_one h hbig ho hBw h1
      · rw [if_neg h1]
        exact popen_nought h hbig ho hBw (by omega) h1
  · rw [if_neg ho]
    cases hok : fu.ok with
    | false =>
      show Calls Try.prog 13 #[.pointer (some ⟨d, 0, none⟩)] w (OpenPost w B P d f (2, s, fu.spent, none))
      exact popen_halt h (Nat.pos_of_ne_zero ho) hop hok hc
    | true =>
      show Calls Try.prog 13 #[.pointer (some ⟨d, 0, none⟩)] w (OpenPost w B P d f (opened s.flush fu.spent))
      unfold opened
      by_cases hh : headG (s.flush.at 0) = 0 ∧ headG (s.flush.at s.flush.half) = 0
      · rw [if_pos hh]
        cases hl : layOk fu.spent with
        | true => exact popen_okF h hbig (Nat.pos_of_ne_zero ho) hop hok hc hBw hh.1 hh.2 hl
        | false => exact popen_noF h hbig (Nat.pos_of_ne_zero ho) hop hok hc hBw hh.1 hh.2 hl
      · rw [if_neg hh]
        by_cases h1 : headG (s.flush.at 0) < headG (s.flush.at s.flush.half)
        · rw [if_pos h1]
          exact popen_oneF h hbig (Nat.pos_of_ne_zero ho) hop hok hc hBw h1
        · rw [if_neg h1]
          exact popen_noughtF h hbig (Nat.pos_of_ne_zero ho) hop hok hc hBw (by omega) h1
end Go.Proofs.Ytooikkjgcpngdaa
