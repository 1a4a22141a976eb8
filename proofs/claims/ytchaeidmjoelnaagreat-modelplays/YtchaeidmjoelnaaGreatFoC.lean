/-
  What package fold's closures answer: a change that comes in some phases, or under a switch, alone.
  The map of what each Kind does, which package fold's changes makes.
  What package fold's stepBy and Step answer.
  States and arrays of two numbers: when they are equal.
-/
import Derived.Test.YtchaeidmjoelnaaGreatFoChC
import Derived.Shelf.Abstract
import Derived.Maps.OwnSet
import Derived.Maps.Views
import Derived.Test.YtchaeidmjoelnaaGreatStStepK
import Derived.Deep.RegionHeld3
import Derived.DeepKeys
namespace Go.Proofs.YtchaeidmjoelnaaGreat
open Go.RowKit

def ints (xs : List Int) : List Value := xs.map (Value.int .i64)
theorem ints_at (xs : List Int) (k : Nat) (h : k < xs.length) : (ints xs)[k]? = some (.int .i64 xs[k]) := by simp [ints, h]
def CallsC (c : Nat) (g : St × Bool) (s : St) (r : Rc) : Prop := ∀ W, Calls Tryz.prog c #[stV s, recV r] W (StepR g W)
def EntersC (c : Nat) : Prop := ∀ (args : Array Value) (w : World), (callFunc c args).run Tryz.prog w = .ok (.enter c args) w
def inS (ps : List Int) (g : St → Rc → St × Bool) (s : St) (r : Rc) : St × Bool := if s.ph ∈ ps then g s r else (s, false)
def underS (far : Int) (g : St → Rc → St × Bool) (s : St) (r : Rc) : St × Bool := if s.sw ≠ far ∨ r.gen ≠ s.gn then (s, false) else g s r
set_option maxRecDepth 100000 in
set_option maxHeartbeats 4000000 in
theorem in1_any (c : Nat) (g : St → Rc → St × Bool) (ps : List Int) (b1 b2 b3 : Nat) (s : St) (r : Rc) (w : World) (hE : EntersC c) (hc : s.ph ∈ ps → CallsC c (g s r) s r) (hn : ps.length ≤ 10)
    (h1 : Rw w b1 #[.slice (some ⟨b3, 0, none⟩) ps.length ps.length] 40) (h2 : Rw w b2 #[.func (.func c) #[] #[]] 137) (h3 : Rw w b3 (ints ps).toArray 3) :
    Calls Tryz.prog 104 #[stV s, recV r, .pointer (some ⟨b1, 0, none⟩), .pointer (some ⟨b2, 0, none⟩)] w (StepR (inS ps g s r) w) := by
  have Hb1 := Lib.hid h1
  have Hb2 := Lib.hid h2
  have Hb3 := Lib.hid h3
  have HCC := Lib.hid hc
  clear h1 h2 h3 hc
  unfold EntersC at hE
  obtain ⟨ph, ac, r0, r1, w0, w1, p0, p1, dl, gn, sw, fl⟩ := s
  obtain ⟨kind, rev, cnt, delay, gen, tick, pass, st⟩ := r
  obtain ⟨x, hx⟩ : ∃ x : St × Bool, x = g (⟨ph, ac, r0, r1, w0, w1, p0, p1, dl, gn, sw, fl⟩ : St) (⟨kind, rev, cnt, delay, gen, tick, pass, st⟩ : Rc) := ⟨_, rfl⟩
  unfold CallsC at HCC
  unfold stV at HCC ⊢
  unfold recV at HCC ⊢
  obtain ⟨cs, hcs⟩ : ∃ c, c = stC (⟨ph, ac, r0, r1, w0, w1, p0, p1, dl, gn, sw, fl⟩ : St) := ⟨_, rfl⟩
  obtain ⟨rs, hrs⟩ : ∃ c, c = recC (⟨kind, rev, cnt, delay, gen, tick, pass, st⟩ : Rc) := ⟨_, rfl⟩
  rw [← hcs, ← hrs] at HCC ⊢
  rw [← hx] at HCC
  obtain ⟨xc, hxc⟩ : ∃ c, c = stC x.1 := ⟨_, rfl⟩
  have HX := Lib.hid hx
  have HXC := Lib.hid hxc
  have HZX : Hid (xc.size = 12) := Lib.hid (by rw [hxc]; rfl)
  have H1X : Hid (xc.all (·.oneCell') = true) := Lib.hid (by rw [hxc]; exact stC_one _)
  unfold StepR stV at HCC
  rw [← hxc] at HCC
  obtain ⟨xb, hxb⟩ : ∃ b, b = x.2 := ⟨_, rfl⟩
  rw [← hxb] at HCC
  have HXB := Lib.hid hxb
  have HC := Lib.hid hcs
  have HRR := Lib.hid hrs
  have HZC : Hid (cs.size = 12) := Lib.hid (by rw [hcs]; rfl)
  have HZR : Hid (rs.size = 19) := Lib.hid (by rw [hrs]; rfl)
  have H1C : Hid (cs.all (·.oneCell') = true) := Lib.hid (by rw [hcs]; exact stC_one _)
  clear hcs hrs hx hxc hxb
  simp only at HCC
  go_enter Tryz.func104, Tryz.ntmps104
  go_upto_region 1 with (fail)
  refine name_w (fun W => Rw W b1 #[.slice (some ⟨b3, 0, none⟩) ps.length ps.length] 40 ∧ Rw W b2 #[.func (.func c) #[] #[]] 137 ∧ Rw W b3 (ints ps).toArray 3 ∧ Rw W w.heap.size cs 33 ∧ Rw W (w.heap.size + 1) rs 85 ∧ Rw W (w.heap.size + 1 + 1) zeroSC 33 ∧ Below w.heap.size w W) ⟨((Hb1.out.alloc _).alloc _).alloc _, ((Hb2.out.alloc _).alloc _).alloc _, ((Hb3.out.alloc _).alloc _).alloc _, ((Rw.new _ _ _).alloc _).alloc _, Rw.alloc (heap_alloc2_new w _ _) _, ?_, (((Below.refl _ _).alloc (Nat.le_refl _) _).alloc (by simp) _).alloc (by simp; omega) _⟩ ?_
  · have h1 := Rw.new ((w.alloc (.cells cs 33)).alloc (.cells rs 85)) zeroSC 33
    rw [size_alloc, size_alloc] at h1
    exact h1
  rintro W ⟨kb1, kb2, kb3, hA, hB, hZ, hb⟩
  have Kb1 := Lib.hid kb1
  have Kb2 := Lib.hid kb2
  have Kb3 := Lib.hid kb3
  have RA := Lib.hid hA
  have RB := Lib.hid hB
  have RZ := Lib.hid hZ
  have BT := Lib.hid hb
  have l1 : W.cell? ⟨b1, 0, none⟩ = some (.slice (some ⟨b3, 0, none⟩) ps.length ps.length) := by rw [kb1.cell 0]; rfl
  have l2 : W.cell? ⟨b2, 0, none⟩ = some (.func (.func c) #[] #[]) := by rw [kb2.cell 0]; rfl
  have l3 : Hid (∀ k (h : k < ps.length), W.cell? ⟨b3, k, none⟩ = some (.int .i64 ps[k])) := Lib.hid (fun k h => by rw [kb3.cell k]; simpa using ints_at ps k h)
  have s0 : W.cell? ⟨w.heap.size, 0, none⟩ = some (.int .i64 ph) := by rw [hA.cell 0, HC.out]; rfl
  clear kb1 kb2 kb3 hA hB hZ hb Hb1 Hb2 Hb3
  go_wp2
  go_loopg [12] ps.length (fun m i wr => ∃ k : Nat, Hid (m = ps.length - k) ∧ k ≤ ps.length ∧ i = .int .i64 k ∧ Hid (∀ j (h : j < ps.length), j < k → ps[j] ≠ ph) ∧ wr = W)
  case atStart => exact ⟨0, Lib.hid rfl, Nat.zero_le _, rfl, Lib.hid (fun j _ h => by omega), rfl⟩
  case round =>
    obtain ⟨k, HG, hk, rfl, HP, rfl⟩ := hrel
    by_cases hlt : k < ps.length
    case pos =>
      have cj := l3.out k hlt
      by_cases hp : ph = ps[k]
      case pos =>
        have HCC := Lib.hid (HCC.out (by rw [hp]; exact List.getElem_mem hlt))
        have HE : Hid (inS ps g (⟨ph, ac, r0, r1, w0, w1, p0, p1, dl, gn, sw, fl⟩ : St) (⟨kind, rev, cnt, delay, gen, tick, pass, st⟩ : Rc) = g (⟨ph, ac, r0, r1, w0, w1, p0, p1, dl, gn, sw, fl⟩ : St) (⟨kind, rev, cnt, delay, gen, tick, pass, st⟩ : Rc)) := Lib.hid (by unfold inS; rw [if_pos (by show ph ∈ ps; rw [hp]; exact List.getElem_mem hlt)])
        have f1 : (ph == ps[k]) = true := by simpa using hp
        clear hp
        go_wp2_with (first | (refine wpList_load_any (by rfl) 33 (.tmp 4) rfl w.heap.size rfl 33 cs (0, 0) _ RA.out Tryz.underlying33 rfl (by rw [HZC.out]; exact i12) ?_) | (refine wpList_load_any (by rfl) 85 (.tmp 5) rfl (w.heap.size + 1) rfl 85 rs (0, 0) _ RB.out Tryz.underlying85 rfl (by rw [HZR.out]; exact i19) ?_))
        refine (HCC.out _).mono ?_
        rintro e u9 ⟨rfl, hb9⟩
        have RZ9 := Lib.hid (RZ.out.under hb9 RZ.out.lt)
        have BT9 := Lib.hid (BT.out.trans (hb9.mono BT.out.size))
        clear hb9
        have ZF := Lib.hid (RZ9.out.set xc)
        have BF := Lib.hid (below_setRow BT9.out (by omega) (b := w.heap.size + 1 + 1) xc)
        go_wp2_with (refine wpList_plain rfl fun _ hK => wp_store_row 33 (.tmp 6) (.tmp 24) rfl (w.heap.size + 1 + 1) xc rfl rfl 33 _ RZ9.out (by rw [HZX.out]; exact i12) (by rw [HZX.out]; rfl) H1X.out (hK _ _ ?_); clear hK)
        (try simp only [Exit.inBlock, Exit.then])
        refine bodyPost_ret (results_cell_tmp rfl _ _ (w.heap.size + 1 + 1) 33 xc (0, 0) _ rfl ZF.out Tryz.underlying33 rfl (by rw [HZX.out]; exact i12)) rfl ?_
        exact ⟨by rw [HE.out, ← HX.out, HXC.out]; show _ = Ending.returned (.tuple #[stV x.1, .bool x.2]); rw [← HXB.out]; rfl, BF.out⟩
      have f1 : (ph == ps[k]) = false := by simpa using hp
      have HQ := Lib.hid hp
      clear hp
      go_wp2
      go_roundg (ps.length - (k + 1))
      case measure => have := HG.out; omega
      case rel => exact ⟨k + 1, Lib.hid rfl, by omega, by simp, Lib.hid (fun j h1 h2 => by
          rcases Nat.lt_or_ge j k with h3 | h3
          · exact HP.out j h1 h3
          · obtain rfl : j = k := by omega
            exact fun e => HQ.out e.symm), rfl⟩
    have HE : Hid (inS ps g (⟨ph, ac, r0, r1, w0, w1, p0, p1, dl, gn, sw, fl⟩ : St) (⟨kind, rev, cnt, delay, gen, tick, pass, st⟩ : Rc) = ((⟨ph, ac, r0, r1, w0, w1, p0, p1, dl, gn, sw, fl⟩ : St), false)) := Lib.hid (by
      unfold inS
      rw [if_neg (by
        intro h
        obtain ⟨j, hj, e⟩ := List.mem_iff_getElem.1 h
        exact HP.out j hj (by omega) e)])
    have ZF := Lib.hid (RZ.out.set cs)
    have BF := Lib.hid (below_setRow BT.out (by omega) (b := w.heap.size + 1 + 1) cs)
    go_wp2_with (first | (refine wpList_load_any (by rfl) 33 (.tmp 4) rfl w.heap.size rfl 33 cs (0, 0) _ RA.out Tryz.underlying33 rfl (by rw [HZC.out]; exact i12) ?_) | (refine wpList_plain rfl fun _ hK => wp_store_row 33 (.tmp 6) (.tmp 27) rfl (w.heap.size + 1 + 1) cs rfl rfl 33 _ RZ.out (by rw [HZC.out]; exact i12) (by rw [HZC.out]; rfl) H1C.out (hK _ _ ?_); clear hK))
    (try simp only [Exit.inBlock, Exit.then])
    refine bodyPost_ret (results_cell_tmp rfl _ _ (w.heap.size + 1 + 1) 33 cs (0, 0) _ rfl ZF.out Tryz.underlying33 rfl (by rw [HZC.out]; exact i12)) rfl ?_
    exact ⟨by rw [HE.out, HC.out]; rfl, BF.out⟩
set_option maxRecDepth 100000 in
set_option maxHeartbeats 4000000 in
theorem under1_any (c : Nat) (g : St → Rc → St × Bool) (far : Int) (b1 b2 : Nat) (s : St) (r : Rc) (w : World) (hE : EntersC c) (hc : s.sw = far → r.gen = s.gn → CallsC c (g s r) s r)
    (h1 : Rw w b1 #[.int .i64 far] 3) (h2 : Rw w b2 #[.func (.func c) #[] #[]] 137) :
    Calls Tryz.prog 106 #[stV s, recV r, .pointer (some ⟨b1, 0, none⟩), .pointer (some ⟨b2, 0, none⟩)] w (StepR (underS far g s r) w) := by
  have Hb1 := Lib.hid h1
  have Hb2 := Lib.hid h2
  have HCC := Lib.hid hc
  clear h1 h2 hc
  unfold EntersC at hE
  obtain ⟨ph, ac, r0, r1, w0, w1, p0, p1, dl, gn, sw, fl⟩ := s
  obtain ⟨kind, rev, cnt, delay, gen, tick, pass, st⟩ := r
  obtain ⟨x, hx⟩ : ∃ x : St × Bool, x = g (⟨ph, ac, r0, r1, w0, w1, p0, p1, dl, gn, sw, fl⟩ : St) (⟨kind, rev, cnt, delay, gen, tick, pass, st⟩ : Rc) := ⟨_, rfl⟩
  unfold CallsC at HCC
  unfold stV at HCC ⊢
  unfold recV at HCC ⊢
  obtain ⟨cs, hcs⟩ : ∃ c, c = stC (⟨ph, ac, r0, r1, w0, w1, p0, p1, dl, gn, sw, fl⟩ : St) := ⟨_, rfl⟩
  obtain ⟨rs, hrs⟩ : ∃ c, c = recC (⟨kind, rev, cnt, delay, gen, tick, pass, st⟩ : Rc) := ⟨_, rfl⟩
  rw [← hcs, ← hrs] at HCC ⊢
  rw [← hx] at HCC
  obtain ⟨xc, hxc⟩ : ∃ c, c = stC x.1 := ⟨_, rfl⟩
  have HX := Lib.hid hx
  have HXC := Lib.hid hxc
  have HZX : Hid (xc.size = 12) := Lib.hid (by rw [hxc]; rfl)
  have H1X : Hid (xc.all (·.oneCell') = true) := Lib.hid (by rw [hxc]; exact stC_one _)
  unfold StepR stV at HCC
  rw [← hxc] at HCC
  obtain ⟨xb, hxb⟩ : ∃ b, b = x.2 := ⟨_, rfl⟩
  rw [← hxb] at HCC
  have HXB := Lib.hid hxb
  have HC := Lib.hid hcs
  have HRR := Lib.hid hrs
  have HZC : Hid (cs.size = 12) := Lib.hid (by rw [hcs]; rfl)
  have HZR : Hid (rs.size = 19) := Lib.hid (by rw [hrs]; rfl)
  have H1C : Hid (cs.all (·.oneCell') = true) := Lib.hid (by rw [hcs]; exact stC_one _)
  clear hcs hrs hx hxc hxb
  simp only at HCC
  go_enter Tryz.func106, Tryz.ntmps106
  go_upto_region 1 with (fail)
  refine name_w (fun W => Rw W b1 #[.int .i64 far] 3 ∧ Rw W b2 #[.func (.func c) #[] #[]] 137 ∧ Rw W w.heap.size cs 33 ∧ Rw W (w.heap.size + 1) rs 85 ∧ Rw W (w.heap.size + 1 + 1) zeroSC 33 ∧ Below w.heap.size w W) ⟨((Hb1.out.alloc _).alloc _).alloc _, ((Hb2.out.alloc _).alloc _).alloc _, ((Rw.new _ _ _).alloc _).alloc _, Rw.alloc (heap_alloc2_new w _ _) _, ?_, (((Below.refl _ _).alloc (Nat.le_refl _) _).alloc (by simp) _).alloc (by simp; omega) _⟩ ?_
  · have h1 := Rw.new ((w.alloc (.cells cs 33)).alloc (.cells rs 85)) zeroSC 33
    rw [size_alloc, size_alloc] at h1
    exact h1
  rintro W ⟨kb1, kb2, hA, hB, hZ, hb⟩
  have Kb1 := Lib.hid kb1
  have Kb2 := Lib.hid kb2
  have RA := Lib.hid hA
  have RB := Lib.hid hB
  have RZ := Lib.hid hZ
  have BT := Lib.hid hb
  have l1 : W.cell? ⟨b1, 0, none⟩ = some (.int .i64 far) := by rw [kb1.cell 0]; rfl
  have l2 : W.cell? ⟨b2, 0, none⟩ = some (.func (.func c) #[] #[]) := by rw [kb2.cell 0]; rfl
  have s9 : W.cell? ⟨w.heap.size, 9, none⟩ = some (.int .i64 gn) := by rw [hA.cell 9, HC.out]; rfl
  have s10 : W.cell? ⟨w.heap.size, 10, none⟩ = some (.int .i64 sw) := by rw [hA.cell 10, HC.out]; rfl
  have q4 : W.cell? ⟨w.heap.size + 1, 4, none⟩ = some (.int .i64 gen) := by rw [hB.cell 4, HRR.out]; rfl
  clear kb1 kb2 hA hB hZ hb Hb1 Hb2
  by_cases hs : sw = far
  case neg =>
    have HE : Hid (underS far g (⟨ph, ac, r0, r1, w0, w1, p0, p1, dl, gn, sw, fl⟩ : St) (⟨kind, rev, cnt, delay, gen, tick, pass, st⟩ : Rc) = ((⟨ph, ac, r0, r1, w0, w1, p0, p1, dl, gn, sw, fl⟩ : St), false)) := Lib.hid (by unfold underS; rw [if_pos (Or.inl hs)])
    have f1 : (sw != far) = true := by simpa using hs
    clear hs
    go_upto_region 2 with (fail)
    have ZF := Lib.hid (RZ.out.set cs)
    have BF := Lib.hid (below_setRow BT.out (by omega) (b := w.heap.size + 1 + 1) cs)
    go_wp2_with (first | (refine wpList_load_any (by rfl) 33 (.tmp 4) rfl w.heap.size rfl 33 cs (0, 0) _ RA.out Tryz.underlying33 rfl (by rw [HZC.out]; exact i12) ?_) | (refine wpList_plain rfl fun _ hK => wp_store_row 33 (.tmp 6) (.tmp 19) rfl (w.heap.size + 1 + 1) cs rfl rfl 33 _ RZ.out (by rw [HZC.out]; exact i12) (by rw [HZC.out]; rfl) H1C.out (hK _ _ ?_); clear hK))
    (try simp only [Exit.inBlock, Exit.then])
    refine bodyPost_ret (results_cell_tmp rfl _ _ (w.heap.size + 1 + 1) 33 cs (0, 0) _ rfl ZF.out Tryz.underlying33 rfl (by rw [HZC.out]; exact i12)) rfl ?_
    exact ⟨by rw [HE.out, HC.out]; rfl, BF.out⟩
  have f1 : (sw != far) = false := by simpa using hs
  by_cases hg : gen = gn
  case neg =>
    have HE : Hid (underS far g (⟨ph, ac, r0, r1, w0, w1, p0, p1, dl, gn, sw, fl⟩ : St) (⟨kind, rev, cnt, delay, gen, tick, pass, st⟩ : Rc) = ((⟨ph, ac, r0, r1, w0, w1, p0, p1, dl, gn, sw, fl⟩ : St), false)) := Lib.hid (by unfold underS; rw [if_pos (Or.inr hg)])
    have f2 : (gen != gn) = true := by simpa using hg
    clear hs hg
    go_upto_region 2 with (fail)
    have ZF := Lib.hid (RZ.out.set cs)
    have BF := Lib.hid (below_setRow BT.out (by omega) (b := w.heap.size + 1 + 1) cs)
    go_wp2_with (first | (refine wpList_load_any (by rfl) 33 (.tmp 4) rfl w.heap.size rfl 33 cs (0, 0) _ RA.out Tryz.underlying33 rfl (by rw [HZC.out]; exact i12) ?_) | (refine wpList_plain rfl fun _ hK => wp_store_row 33 (.tmp 6) (.tmp 19) rfl (w.heap.size + 1 + 1) cs rfl rfl 33 _ RZ.out (by rw [HZC.out]; exact i12) (by rw [HZC.out]; rfl) H1C.out (hK _ _ ?_); clear hK))
    (try simp only [Exit.inBlock, Exit.then])
    refine bodyPost_ret (results_cell_tmp rfl _ _ (w.heap.size + 1 + 1) 33 cs (0, 0) _ rfl ZF.out Tryz.underlying33 rfl (by rw [HZC.out]; exact i12)) rfl ?_
    exact ⟨by rw [HE.out, HC.out]; rfl, BF.out⟩
  have HCC := Lib.hid (HCC.out hs hg)
  have HE : Hid (underS far g (⟨ph, ac, r0, r1, w0, w1, p0, p1, dl, gn, sw, fl⟩ : St) (⟨kind, rev, cnt, delay, gen, tick, pass, st⟩ : Rc) = g (⟨ph, ac, r0, r1, w0, w1, p0, p1, dl, gn, sw, fl⟩ : St) (⟨kind, rev, cnt, delay, gen, tick, pass, st⟩ : Rc)) := Lib.hid (by unfold underS; rw [if_neg (fun h => h.elim (fun h => h hs) (fun h => h hg))])
  have f2 : (gen != gn) = false := by simpa using hg
  clear hs hg
  go_upto_region 3 with (fail)
  go_wp2_with (first | (refine wpList_load_any (by rfl) 33 (.tmp 4) rfl w.heap.size rfl 33 cs (0, 0) _ RA.out Tryz.underlying33 rfl (by rw [HZC.out]; exact i12) ?_) | (refine wpList_load_any (by rfl) 85 (.tmp 5) rfl (w.heap.size + 1) rfl 85 rs (0, 0) _ RB.out Tryz.underlying85 rfl (by rw [HZR.out]; exact i19) ?_))
  refine (HCC.out _).mono ?_
  rintro e u9 ⟨rfl, hb9⟩
  have RZ9 := Lib.hid (RZ.out.under hb9 RZ.out.lt)
  have BT9 := Lib.hid (BT.out.trans (hb9.mono BT.out.size))
  clear hb9
  have ZF := Lib.hid (RZ9.out.set xc)
  have BF := Lib.hid (below_setRow BT9.out (by omega) (b := w.heap.size + 1 + 1) xc)
  go_wp2_with (refine wpList_plain rfl fun _ hK => wp_store_row 33 (.tmp 6) (.tmp 24) rfl (w.heap.size + 1 + 1) xc rfl rfl 33 _ RZ9.out (by rw [HZX.out]; exact i12) (by rw [HZX.out]; rfl) H1X.out (hK _ _ ?_); clear hK)
  (try simp only [Exit.inBlock, Exit.then])
  refine bodyPost_ret (results_cell_tmp rfl _ _ (w.heap.size + 1 + 1) 33 xc (0, 0) _ rfl ZF.out Tryz.underlying33 rfl (by rw [HZX.out]; exact i12)) rfl ?_
  exact ⟨by rw [HE.out, ← HX.out, HXC.out]; show _ = Ending.returned (.tuple #[stV x.1, .bool x.2]); rw [← HXB.out]; rfl, BF.out⟩
end Go.Proofs.YtchaeidmjoelnaaGreat
namespace Go.Proofs.YtchaeidmjoelnaaGreat
open Go.RowKit

def Fits (n : Int) : Prop := -9223372036854775808 ≤ n ∧ n ≤ 9223372036854775807
theorem below_grown' {B m : Nat} {w W W' : World} (h : Below B w W) (hg : W.grownBy W' (some m)) (hm : B ≤ m) (hB : B ≤ w.heap.size) : Below B w W' :=
  ⟨hg.os.trans h.os, hg.tape.trans h.tape, hg.output.trans h.output, Nat.le_trans h.size hg.size, fun k hk => by
    rw [hg.block k (by have := h.size; omega) (fun e => by injection e with e; omega)]
    exact h.block k hk⟩
/-- An element reads as itself. -/
def heldR (v : Value) : Option (DataW Value × List MemPlace) := some (.held v, [])
def key (k : Int) : Lit := .int .i64 k
theorem key_keyed : Maps.Keyed Tryz.prog 3 := Maps.int_keyed Tryz.underlying3
theorem key_inj {a b : Int} (h : a ≠ b) : key a ≠ key b := by intro e; injection e with _ e; exact h e
theorem key_lit (k : Int) : WideAt.IsKeyLit (key k) := by simp [key, WideAt.IsKeyLit]
theorem key_of {k : Int} (h : Fits k) : keyOf Tryz.prog 3 (.int .i64 k) = some (key k) := Maps.keyOf_int_mk Tryz.underlying3 (by
  unfold Fits at h
  simp [Lit.wf, IntKind.min, IntKind.max, IntKind.signed, IntKind.bits]
  omega)

/-- A function value that does this, as long as what it holds stays: its blocks lie behind block m. -/
def Does (m : Nat) (W : World) (f : Value) (g : St → Rc → St × Bool) : Prop :=
  ∃ fn p q, f = .func (.func fn) #[] #[.pointer (some ⟨p, 0, none⟩), .pointer (some ⟨q, 0, none⟩)] ∧ EntersC fn ∧
    ∀ W', (∀ k, m < k → k < W.heap.size → W'.heap[k]? = W.heap[k]?) → ∀ s r, rightS s = true → Calls Tryz.prog fn #[stV s, recV r, .pointer (some ⟨p, 0, none⟩), .pointer (some ⟨q, 0, none⟩)] W' (StepR (g s r) W')
theorem Does.keep {m : Nat} {W W' : World} {f : Value} {g : St → Rc → St × Bool} (h : Does m W f g) (hk : ∀ k, m < k → k < W.heap.size → W'.heap[k]? = W.heap[k]?) (hs : W.heap.size ≤ W'.heap.size) : Does m W' f g := by
  obtain ⟨fn, p, q, hf, hE, h⟩ := h
  exact ⟨fn, p, q, hf, hE, fun W'' h2 => h W'' fun k h3 h4 => (h2 k h3 (by omega)).trans (hk k h3 h4)⟩
/-- The map in block m of W has just what T says. -/
structure Tab (m : Nat) (W : World) (T : Int → Option (St → Rc → St × Bool)) (n : Nat) : Prop where
  own : ∃ D, W.ownsMap Tryz.prog 3 heldR m n D ∧ ∀ k, Maps.has D (key k) = (T k).isSome ∧ (T k = none → D.atKey (key k) (.held .nilFunc) = .held .nilFunc) ∧ ∀ g, T k = some g → ∃ v, D.atKey (key k) (.held .nilFunc) = .held v ∧ Does m W v g
theorem Tab.made (w : World) : Tab w.heap.size (w.alloc (.map #[] 0)) (fun _ => none) 0 :=
  ⟨⟨_, World.ownsMap_made w _ _ _, fun k => ⟨rfl, fun _ => rfl, fun xs h => by cases h⟩⟩⟩
theorem Tab.lt {m n : Nat} {W : World} {T : Int → Option (St → Rc → St × Bool)} (h : Tab m W T n) : m < W.heap.size := by
  obtain ⟨D, ho, _⟩ := h.own
  exact ho.lt
theorem Tab.under {m n : Nat} {W W' : World} {T : Int → Option (St → Rc → St × Bool)} (h : Tab m W T n) (hb : Below W.heap.size W W') : Tab m W' T n := by
  have hlt := h.lt
  obtain ⟨D, ⟨es, c, h1, h2⟩, hs⟩ := h.own
  refine ⟨⟨D, ⟨es, c, (hb.block m hlt).trans h1, h2⟩, fun k => ⟨(hs k).1, (hs k).2.1, fun g hg => ?_⟩⟩⟩
  obtain ⟨v, h3, h4⟩ := (hs k).2.2 g hg
  exact ⟨v, h3, h4.keep (fun k _ hk => hb.block k hk) hb.size⟩
theorem Tab.put {m n : Nat} {W : World} {T : Int → Option (St → Rc → St × Bool)} (h : Tab m W T n) (k0 : Int) {f : Value} {g : St → Rc → St × Bool} (hf : Does m W f g) (hk : Fits k0) (hn : n < 1000) :
    ∃ W', (Instr.mapUpdate 133 (.map (some m)) (.int .i64 k0) f).run Tryz.prog W = .ok () W' ∧ Tab m W' (fun k => if k = k0 then some g else T k) (n + 1) ∧ W.grownBy W' (some m) := by
  obtain ⟨D, ho, hs⟩ := h.own
  obtain ⟨W', hrun, ho', hg⟩ := ho.update key_keyed Tryz.underlying133 (by unfold maxLen; omega) (key_of hk) (d := .held f) (ps := []) rfl
  have hD : ∀ {v g'}, Does m W v g' → Does m W' v g' := fun h => h.keep (fun k h1 h2 => hg.block k h2 (by intro e; injection e with e; omega)) hg.size
  refine ⟨W', hrun, ⟨⟨_, ho', fun k => ?_⟩⟩, hg⟩
  by_cases e : k = k0
  · subst e
    refine ⟨by rw [Maps.has_put_same ho.isMap (key_lit _)]; simp, fun h => by simp at h, fun g' hg' => ⟨_, Maps.atKey_put_same ho.isMap (key_lit _) _ _, ?_⟩⟩
    obtain rfl : g = g' := by simpa using hg'
    exact hD hf
  · rw [Maps.has_put_other (key_inj e), Maps.atKey_put_other (key_inj e), if_neg e]
    refine ⟨(hs k).1, (hs k).2.1, fun g' hg' => ?_⟩
    obtain ⟨v, h1, h2⟩ := (hs k).2.2 g' hg'
    exact ⟨v, h1, hD h2⟩
theorem zero47 (W : World) : (zeroValue 137).run Tryz.prog W = .ok .nilFunc W := by
  have := Tryz.underlying137
  go_simp
theorem Tab.look {m n : Nat} {W : World} {T : Int → Option (St → Rc → St × Bool)} (h : Tab m W T n) (k : Int) (hk : Fits k) :
    ∃ v, (Instr.lookup 133 (.map (some m)) (.int .i64 k) true).run Tryz.prog W = .ok (.tuple #[v, .bool (T k).isSome]) W ∧ (T k = none → v = .nilFunc) ∧ ∀ g, T k = some g → Does m W v g := by
  obtain ⟨D, ho, hs⟩ := h.own
  obtain ⟨v, ps, hrun, hv⟩ := ho.look_ok key_keyed Tryz.underlying133 (zero47 W) (zd := .held .nilFunc) (zp := []) rfl (key_of hk)
  obtain ⟨h1, h2, h3⟩ := hs k
  have hv' : DataW.held v = D.atKey (key k) (.held .nilFunc) := by
    unfold heldR at hv
    exact (Prod.mk.inj (Option.some.inj hv)).1
  refine ⟨v, by rw [hrun, h1], fun ht => ?_, fun g ht => ?_⟩
  · rw [h2 ht] at hv'
    injection hv'
  · obtain ⟨u, h4, h5⟩ := h3 g ht
    rw [h4] at hv'
    injection hv' with e
    subst e
    exact h5
theorem enters_41 : EntersC 104 := enters_of Tryz.func104 (by kernel_rfl) rfl
theorem enters_43 : EntersC 106 := enters_of Tryz.func106 (by kernel_rfl) rfl
theorem Tab.putIn {m n : Nat} {W : World} {T : Int → Option (St → Rc → St × Bool)} (h : Tab m W T n) (k0 : Int) (c : Nat) (g : St → Rc → St × Bool) (ps : List Int) (hE : EntersC c) (hc : ∀ s r, rightS s = true → CallsC c (g s r) s r) (hp : ps.length ≤ 10) (hk : Fits k0) (hn : n < 1000) :
    ∃ W', (Instr.mapUpdate 133 (.map (some m)) (.int .i64 k0) (.func (.func 104) #[] #[.pointer (some ⟨W.heap.size + 1 + 1, 0, none⟩), .pointer (some ⟨W.heap.size + 1, 0, none⟩)])).run Tryz.prog (((W.alloc (.cells (ints ps).toArray 3)).alloc (.cells #[.func (.func c) #[] #[]] 137)).alloc (.cells #[.slice (some ⟨W.heap.size, 0, none⟩) ps.length ps.length] 40)) = .ok () W' ∧ Tab m W' (fun k => if k = k0 then some (inS ps g) else T k) (n + 1) ∧ Below m W W' := by
  have hlt := h.lt
  have b1 := ((Below.refl W.heap.size W).alloc (Nat.le_refl _) (.cells (ints ps).toArray 3)).alloc (by simp) (.cells #[.func (.func c) #[] #[]] 137)
  have b2 := b1.alloc (by simp; omega) (.cells #[.slice (some ⟨W.heap.size, 0, none⟩) ps.length ps.length] 40)
  have r3 := ((Rw.new W (ints ps).toArray 3).alloc (.cells #[.func (.func c) #[] #[]] 137)).alloc (.cells #[.slice (some ⟨W.heap.size, 0, none⟩) ps.length ps.length] 40)
  have r2 := (Rw.new (W.alloc (.cells (ints ps).toArray 3)) #[.func (.func c) #[] #[]] 137).alloc (.cells #[.slice (some ⟨W.heap.size, 0, none⟩) ps.length ps.length] 40)
  have r1 := Rw.new ((W.alloc (.cells (ints ps).toArray 3)).alloc (.cells #[.func (.func c) #[] #[]] 137)) #[.slice (some ⟨W.heap.size, 0, none⟩) ps.length ps.length] 40
  rw [size_alloc] at r2
  rw [size_alloc, size_alloc] at r1
  obtain ⟨W', e, ht, hg⟩ := (h.under b2).put k0 (g := inS ps g) (f := .func (.func 104) #[] #[.pointer (some ⟨W.heap.size + 1 + 1, 0, none⟩), .pointer (some ⟨W.heap.size + 1, 0, none⟩)]) ⟨104, _, _, rfl, enters_41, fun W' hW s r hs => by
      refine in1_any c g ps _ _ W.heap.size s r W' hE (fun _ => hc s r hs) hp ((hW _ (by omega) (by first | (simp; done) | (simp; omega))).trans r1) ((hW _ (by omega) (by first | (simp; done) | (simp; omega))).trans r2) ((hW _ hlt (by first | (simp; done) | (simp; omega))).trans r3)⟩ hk hn
  exact ⟨W', e, ht, below_grown' (b2.mono (Nat.le_of_lt hlt)) hg (Nat.le_refl _) (Nat.le_of_lt hlt)⟩
theorem Tab.putUnder {m n : Nat} {W : World} {T : Int → Option (St → Rc → St × Bool)} (h : Tab m W T n) (k0 : Int) (c : Nat) (g : St → Rc → St × Bool) (far : Int) (hE : EntersC c) (hc : ∀ s r, rightS s = true → CallsC c (g s r) s r) (hk : Fits k0) (hn : n < 1000) :
    ∃ W', (Instr.mapUpdate 133 (.map (some m)) (.int .i64 k0) (.func (.func 106) #[] #[.pointer (some ⟨W.heap.size + 1, 0, none⟩), .pointer (some ⟨W.heap.size, 0, none⟩)])).run Tryz.prog ((W.alloc (.cells #[.func (.func c) #[] #[]] 137)).alloc (.cells #[.int .i64 far] 3)) = .ok () W' ∧ Tab m W' (fun k => if k = k0 then some (underS far g) else T k) (n + 1) ∧ Below m W W' := by
  have hlt := h.lt
  have b2 := ((Below.refl W.heap.size W).alloc (Nat.le_refl _) (.cells #[.func (.func c) #[] #[]] 137)).alloc (by simp) (.cells #[.int .i64 far] 3)
  have r2 := (Rw.new W #[.func (.func c) #[] #[]] 137).alloc (.cells #[.int .i64 far] 3)
  have r1 := Rw.new (W.alloc (.cells #[.func (.func c) #[] #[]] 137)) #[.int .i64 far] 3
  rw [size_alloc] at r1
  obtain ⟨W', e, ht, hg⟩ := (h.under b2).put k0 (g := underS far g) (f := .func (.func 106) #[] #[.pointer (some ⟨W.heap.size + 1, 0, none⟩), .pointer (some ⟨W.heap.size, 0, none⟩)]) ⟨106, _, _, rfl, enters_43, fun W' hW s r hs => by
      refine under1_any c g far _ _ s r W' hE (fun _ _ => hc s r hs) ((hW _ (by omega) (by first | (simp; done) | (simp; omega))).trans r1) ((hW _ hlt (by first | (simp; done) | (simp; omega))).trans r2)⟩ hk hn
  exact ⟨W', e, ht, below_grown' (b2.mono (Nat.le_of_lt hlt)) hg (Nat.le_refl _) (Nat.le_of_lt hlt)⟩
/-- What each Kind does. -/
def changesT (k : Int) : Option (St → Rc → St × Bool) :=
  if k = 10 then some (inS [5, 7] (fun s _ => sc10 s)) else if k = 9 then some (inS [4] gb9) else if k = 8 then some (underS 2 ap8) else if k = 7 then some (underS 1 (fun s _ => ca7 s)) else if k = 6 then some (underS 1 (fun s _ => co6 s)) else if k = 5 then some (inS [3, 6] pr5) else if k = 4 then some (inS [2] ga4) else if k = 3 then some (inS [1] (fun s _ => wa3 s)) else if k = 2 then some (inS [1, 2, 3, 4, 5] (fun s _ => ab2 s)) else if k = 1 then some (inS [0, 1, 2] dep1) else none
set_option maxRecDepth 100000 in
set_option maxHeartbeats 4000000 in
theorem in_any (c : Nat) (v : Value) (A : Option Addr) (n m : Nat) (hv : v = .slice A n m) (w : World) : Calls Tryz.prog 88 #[.func (.func c) #[] #[], v] w fun e w' => e = .returned (.func (.func 104) #[] #[.pointer (some ⟨w.heap.size + 1, 0, none⟩), .pointer (some ⟨w.heap.size, 0, none⟩)]) ∧ w' = (w.alloc (.cells #[.func (.func c) #[] #[]] 137)).alloc (.cells #[v] 40) := by
  subst hv
  have hmf : ∀ (fn : Fn) (first cap : Array Value) (w : World), (Instr.makeFunc fn first cap).run Tryz.prog w = .ok (.func fn first cap) w := fun _ _ _ _ => rfl
  go_enter Tryz.func88, Tryz.ntmps88
  go_wp2
  go_ret
  exact ⟨rfl, rfl⟩
set_option maxRecDepth 100000 in
set_option maxHeartbeats 4000000 in
theorem under_any (c : Nat) (far : Int) (w : World) : Calls Tryz.prog 94 #[.func (.func c) #[] #[], .int .i64 far] w fun e w' => e = .returned (.func (.func 106) #[] #[.pointer (some ⟨w.heap.size + 1, 0, none⟩), .pointer (some ⟨w.heap.size, 0, none⟩)]) ∧ w' = (w.alloc (.cells #[.func (.func c) #[] #[]] 137)).alloc (.cells #[.int .i64 far] 3) := by
  have hmf : ∀ (fn : Fn) (first cap : Array Value) (w : World), (Instr.makeFunc fn first cap).run Tryz.prog w = .ok (.func fn first cap) w := fun _ _ _ _ => rfl
  go_enter Tryz.func94, Tryz.ntmps94
  go_wp2
  go_ret
  exact ⟨rfl, rfl⟩
set_option maxRecDepth 100000 in
set_option maxHeartbeats 4000000 in
theorem changes_any (w : World) : Calls Tryz.prog 84 #[] w fun e w' => e = .returned (.map (some w.heap.size)) ∧ Tab w.heap.size w' changesT 10 ∧ Below w.heap.size w w' := by
  have hmm := @run_makeMap Tryz.prog
  have F : ∀ n : Int, 0 ≤ n → n ≤ 20 → Fits n := fun n h1 h2 => by unfold Fits; omega
  have T0 := Tab.made w
  have B0 : Below w.heap.size w (w.alloc (.map #[] 0)) := (Below.refl _ _).alloc (Nat.le_refl _) _
  obtain ⟨W1, e1, T1, b1⟩ := T0.putIn 1 89 dep1 [0, 1, 2] (enters_of Tryz.func89 (by kernel_rfl) rfl) (fun s r hs W => deploy_any s r W (right_in hs).1) (by decide) (F _ (by omega) (by omega)) (by omega)
  obtain ⟨W2, e2, T2, b2⟩ := T1.putIn 2 90 (fun s _ => ab2 s) [1, 2, 3, 4, 5] (enters_of Tryz.func90 (by kernel_rfl) rfl) (fun s r hs W => abort_any s r W (right_in hs).1) (by decide) (F _ (by omega) (by omega)) (by omega)
  obtain ⟨W3, e3, T3, b3⟩ := T2.putIn 3 91 (fun s _ => wa3 s) [1] (enters_of Tryz.func91 (by kernel_rfl) rfl) (fun s r _ W => warm_any s r W) (by decide) (F _ (by omega) (by omega)) (by omega)
  obtain ⟨W4, e4, T4, b4⟩ := T3.putIn 4 92 ga4 [2] (enters_of Tryz.func92 (by kernel_rfl) rfl) (fun s r hs W => gate_ahead_any s r W (right_in hs).1) (by decide) (F _ (by omega) (by omega)) (by omega)
  obtain ⟨W5, e5, T5, b5⟩ := T4.putIn 5 93 pr5 [3, 6] (enters_of Tryz.func93 (by kernel_rfl) rfl) (fun s r hs W => prepare_any s r W (right_in hs).2.2.2.1 (right_in hs).2.2.2.2.1) (by decide) (F _ (by omega) (by omega)) (by omega)
  obtain ⟨W6, e6, T6, b6⟩ := T5.putUnder 6 95 (fun s _ => co6 s) 1 (enters_of Tryz.func95 (by kernel_rfl) rfl) (fun s r _ W => commit_any s r W) (F _ (by omega) (by omega)) (by omega)
  obtain ⟨W7, e7, T7, b7⟩ := T6.putUnder 7 96 (fun s _ => ca7 s) 1 (enters_of Tryz.func96 (by kernel_rfl) rfl) (fun s r hs W => cancel_any s r W (right_in hs).2.2.2.1 (right_in hs).2.2.2.2.1) (F _ (by omega) (by omega)) (by omega)
  obtain ⟨W8, e8, T8, b8⟩ := T7.putUnder 8 97 ap8 2 (enters_of Tryz.func97 (by kernel_rfl) rfl) (fun s r hs W => applied_any s r W (right_in hs).1) (F _ (by omega) (by omega)) (by omega)
  obtain ⟨W9, e9, T9, b9⟩ := T8.putIn 9 98 gb9 [4] (enters_of Tryz.func98 (by kernel_rfl) rfl) (fun s r _ W => gate_behind_any s r W) (by decide) (F _ (by omega) (by omega)) (by omega)
  obtain ⟨W10, e10, T10, b10⟩ := T9.putIn 10 99 (fun s _ => sc10 s) [5, 7] (enters_of Tryz.func99 (by kernel_rfl) rfl) (fun s r hs W => scaled_any s r W (right_in hs).1) (by decide) (F _ (by omega) (by omega)) (by omega)
  have HT : Hid (Tab w.heap.size W10 changesT 10) := Lib.hid T10
  have HB : Hid (Below w.heap.size w W10) := Lib.hid ((((((((((B0.trans b1).trans b2).trans b3).trans b4).trans b5).trans b6).trans b7).trans b8).trans b9).trans b10)
  clear T0 B0 F T1 b1 T2 b2 T3 b3 T4 b4 T5 b5 T6 b6 T7 b7 T8 b8 T9 b9 T10 b10
  simp only [ints, List.map_cons, List.map_nil, List.length_cons, List.length_nil, Nat.zero_add, Nat.reduceAdd] at e1 e2 e3 e4 e5 e9 e10
  rw [show (w.alloc (.map #[] 0)).heap.size = w.heap.size + 1 by simp] at e1
  go_enter Tryz.func84, Tryz.ntmps84
  go_wp2_with (first | (go_at_call 88; refine (in_any _ _ _ _ _ rfl _).mono ?_; rintro e w' ⟨rfl, rfl⟩) | (go_at_call 94; refine (under_any _ _ _).mono ?_; rintro e w' ⟨rfl, rfl⟩))
  go_ret
  exact ⟨rfl, HT.out, HB.out⟩
end Go.Proofs.YtchaeidmjoelnaaGreat
namespace Go.Proofs.YtchaeidmjoelnaaGreat
open Go.RowKit

theorem in_1 (s : St) (r : Rc) : inS [0, 1, 2] dep1 s r = step1 s r := by
  unfold inS step1 dep1
  by_cases h : s.ph ≠ 0 ∧ s.ph ≠ 1 ∧ s.ph ≠ 2
  · rw [if_pos h, if_neg (by simp; omega)]
  · rw [if_neg h, if_pos (by simp; omega)]
theorem in_2 (s : St) (r : Rc) (hr : rightS s = true) : inS [1, 2, 3, 4, 5] (fun s _ => ab2 s) s r = step2 s := by
  have hsw : s.sw = 0 ∨ s.ph = 3 ∨ s.ph = 6 := by
    unfold rightS at hr
    split at hr
    · have := of_decide_eq_true hr; unfold RightX at this; omega
    · split at hr
      · have := of_decide_eq_true hr; unfold RightX at this; omega
      · cases hr
  have h7 := (right_in hr).2
  unfold inS step2 ab2
  by_cases h1 : s.ph = 1 ∨ s.ph = 2 ∨ s.ph = 3 ∧ s.sw = 0
  · rw [if_pos h1, if_pos (by simp; omega)]
    simp only
    rw [if_neg (by omega), if_neg (by omega)]
  · rw [if_neg h1]
    by_cases h4 : s.ph = 4 ∨ s.ph = 5
    · rw [if_pos (by simp; omega), pick_yes _ _ h4]
      simp only
      rw [if_neg (by omega), if_pos h4]
    · rw [pick_no _ _ h4]
      by_cases h3 : s.ph = 3
      · rw [if_pos (by simp; omega)]
        simp only
        rw [if_pos (by omega)]
      · rw [if_neg (by simp; omega)]
theorem in_3 (s : St) (r : Rc) : inS [1] (fun s _ => wa3 s) s r = step3 s := by
  unfold inS step3 wa3
  by_cases h : s.ph = 1
  · rw [if_pos (by simpa using h), pick_yes _ _ h]
  · rw [if_neg (by simpa using h), pick_no _ _ h]
theorem in_4 (s : St) (r : Rc) : inS [2] ga4 s r = step4 s r := by
  unfold inS step4 ga4
  by_cases h : s.ph = 2
  · rw [if_pos (by simpa using h), pick_yes _ _ h]
    cases r.pass <;> simp [h]
  · rw [if_neg (by simpa using h), if_neg (fun h1 => h h1.1), pick_no _ _ h]
theorem in_5 (s : St) (r : Rc) (hr : rightS s = true) : inS [3, 6] pr5 s r = step5 s r := by
  have h7 := (right_in hr).2
  unfold inS step5 pr5
  by_cases h : (s.ph = 3 ∨ s.ph = 6) ∧ s.sw = 0 ∧ s.gn < 1048576 ∧ r.gen = s.gn + 1
  · rw [if_pos (by simpa using h.1), pick_yes _ _ h, if_neg (by omega)]
  · rw [pick_no _ _ h]
    by_cases h1 : s.ph = 3 ∨ s.ph = 6
    · rw [if_pos (by simpa using h1), if_pos (by omega)]
    · rw [if_neg (by simpa using h1)]
theorem under_6 (s : St) (r : Rc) : underS 1 (fun s _ => co6 s) s r = step6 s r := by
  unfold underS step6 co6
  by_cases h : s.sw = 1 ∧ r.gen = s.gn
  · rw [if_neg (by omega), pick_yes _ _ h]
  · rw [if_pos (by omega), pick_no _ _ h]
theorem under_7 (s : St) (r : Rc) : underS 1 (fun s _ => ca7 s) s r = step7 s r := by
  unfold underS step7 ca7
  by_cases h : s.sw = 1 ∧ r.gen = s.gn
  · rw [if_neg (by omega), pick_yes _ _ h]
  · rw [if_pos (by omega), pick_no _ _ h]
theorem under_8 (s : St) (r : Rc) : underS 2 ap8 s r = step8 s r := by
  unfold underS step8 ap8
  by_cases h : s.sw = 2 ∧ r.gen = s.gn ∧ 0 ≤ r.tick ∧ r.tick ≤ 1073741824
  · rw [if_neg (by omega), pick_yes _ _ h, if_neg (by unfold inR; simp; omega)]
  · rw [pick_no _ _ h]
    by_cases h1 : s.sw ≠ 2 ∨ r.gen ≠ s.gn
    · rw [if_pos h1]
    · rw [if_neg h1, if_pos (by unfold inR; simp; omega)]
theorem in_9 (s : St) (r : Rc) : inS [4] gb9 s r = step9 s r := by
  unfold inS step9 gb9
  by_cases h : s.ph = 4
  · rw [if_pos (by simpa using h), pick_yes _ _ h]
  · rw [if_neg (by simpa using h), pick_no _ _ h]
theorem in_10 (s : St) (r : Rc) : inS [5, 7] (fun s _ => sc10 s) s r = step10 s := by
  unfold inS step10 sc10
  by_cases h : s.ph = 5 ∨ s.ph = 7
  · rw [if_pos (by simpa using h), pick_yes _ _ h]
  · rw [if_neg (by simpa using h), pick_no _ _ h]
theorem changes_none {s : St} {r : Rc} (h : changesT r.kind = none) : stepS s r = (s, false) := by
  unfold stepS
  split
  · rfl
  · unfold changesT at h
    repeat (split at h; cases h)
    simp [*]
theorem changes_some {s : St} {r : Rc} {g : St → Rc → St × Bool} (h : changesT r.kind = some g) (hr : rightS s = true) : g s r = stepS s r := by
  unfold stepS
  rw [if_neg (by rw [hr]; decide)]
  unfold changesT at h
  by_cases h10 : r.kind = 10
  · rw [h10] at h ⊢
    simp at h ⊢
    subst h
    exact in_10 s r
  by_cases h9 : r.kind = 9
  · rw [h9] at h ⊢
    simp at h ⊢
    subst h
    exact in_9 s r
  by_cases h8 : r.kind = 8
  · rw [h8] at h ⊢
    simp at h ⊢
    subst h
    exact under_8 s r
  by_cases h7 : r.kind = 7
  · rw [h7] at h ⊢
    simp at h ⊢
    subst h
    exact under_7 s r
  by_cases h6 : r.kind = 6
  · rw [h6] at h ⊢
    simp at h ⊢
    subst h
    exact under_6 s r
  by_cases h5 : r.kind = 5
  · rw [h5] at h ⊢
    simp at h ⊢
    subst h
    exact in_5 s r hr
  by_cases h4 : r.kind = 4
  · rw [h4] at h ⊢
    simp at h ⊢
    subst h
    exact in_4 s r
  by_cases h3 : r.kind = 3
  · rw [h3] at h ⊢
    simp at h ⊢
    subst h
    exact in_3 s r
  by_cases h2 : r.kind = 2
  · rw [h2] at h ⊢
    simp at h ⊢
    subst h
    exact in_2 s r hr
  by_cases h1 : r.kind = 1
  · rw [h1] at h ⊢
    simp at h ⊢
    subst h
    exact in_1 s r
  simp [h1, h2, h3, h4, h5, h6, h7, h8, h9, h10] at h
set_option maxRecDepth 100000 in
set_option maxHeartbeats 4000000 in
theorem stepBy_any (m n : Nat) (s : St) (r : Rc) (w : World) (hT : Tab m w changesT n) (hk : Fits r.kind) : Calls Tryz.prog 83 #[.map (some m), stV s, recV r] w (StepR (stepS s r) w) := by
  have HT := Lib.hid hT
  have HK := Lib.hid hk
  have HNO : Hid (changesT r.kind = none → stepS s r = (s, false)) := Lib.hid changes_none
  have HYES : Hid (∀ g, changesT r.kind = some g → rightS s = true → g s r = stepS s r) := Lib.hid (fun g => changes_some)
  have HRG : Hid (∀ W, Calls Tryz.prog 48 #[stV s] W fun e w' => e = .returned (.bool (rightS s)) ∧ Below W.heap.size W w') := Lib.hid (fun W => right_any s W)
  have HWR : Hid (rightS s = false → stepS s r = (s, false)) := Lib.hid (fun h => by unfold stepS; rw [if_pos h])
  clear hT hk
  obtain ⟨kind, hkd⟩ : ∃ k, k = r.kind := ⟨_, rfl⟩
  obtain ⟨x, hx⟩ : ∃ x : St × Bool, x = stepS s r := ⟨_, rfl⟩
  have HKD := Lib.hid hkd
  obtain ⟨xc, hxc⟩ : ∃ c, c = stC x.1 := ⟨_, rfl⟩
  obtain ⟨xb, hxb⟩ : ∃ b, b = x.2 := ⟨_, rfl⟩
  have HX := Lib.hid hx
  have HXC := Lib.hid hxc
  have HXB := Lib.hid hxb
  have HZX : Hid (xc.size = 12) := Lib.hid (by rw [hxc]; rfl)
  have H1X : Hid (xc.all (·.oneCell') = true) := Lib.hid (by rw [hxc]; exact stC_one _)
  rw [← hkd] at HNO HYES HK
  obtain ⟨cs, hcs⟩ : ∃ c, c = stC s := ⟨_, rfl⟩
  obtain ⟨rs, hrs⟩ : ∃ c, c = recC r := ⟨_, rfl⟩
  have HC := Lib.hid hcs
  have HRR := Lib.hid hrs
  have HZC : Hid (cs.size = 12) := Lib.hid (by rw [hcs]; rfl)
  have HZR : Hid (rs.size = 19) := Lib.hid (by rw [hrs]; rfl)
  have H1C : Hid (cs.all (·.oneCell') = true) := Lib.hid (by rw [hcs]; exact stC_one _)
  rw [show stV s = .agg cs by rw [hcs]; rfl, show recV r = .agg rs by rw [hrs]; rfl]
  rw [show stV s = .agg cs by rw [hcs]; rfl] at HRG
  clear hcs hrs hx hxc hxb hkd
  go_enter Tryz.func83, Tryz.ntmps83
  go_upto_region 1 with (fail)
  refine name_w (fun W => Rw W w.heap.size cs 33 ∧ Rw W (w.heap.size + 1) rs 85 ∧ Rw W (w.heap.size + 1 + 1) zeroSC 33 ∧ Below w.heap.size w W) ⟨((Rw.new _ _ _).alloc _).alloc _, Rw.alloc (heap_alloc2_new w _ _) _, ?_, (((Below.refl _ _).alloc (Nat.le_refl _) _).alloc (by simp) _).alloc (by simp; omega) _⟩ ?_
  · have h1 := Rw.new ((w.alloc (.cells cs 33)).alloc (.cells rs 85)) zeroSC 33
    rw [size_alloc, size_alloc] at h1
    exact h1
  rintro u0 ⟨hA, hB, hZ, hb⟩
  have RA0 := Lib.hid hA
  have RB0 := Lib.hid hB
  have RZ0 := Lib.hid hZ
  have BT0 := Lib.hid hb
  have q0 : u0.cell? ⟨w.heap.size + 1, 0, none⟩ = some (.int .i64 kind) := by rw [hB.cell 0, HRR.out, HKD.out]; rfl
  obtain ⟨v, ev, hv1, hv2⟩ := (HT.out.under hb).look kind HK.out
  clear hA hB hZ hb
  cases hk : changesT kind with
  | none =>
    have HE : Hid (stepS s r = (s, false)) := Lib.hid (HNO.out hk)
    rw [hk] at ev
    obtain rfl := hv1 hk
    clear hv1 hv2 hk
    change _ = Result.ok (Value.tuple #[.nilFunc, .bool false]) u0 at ev
    have ZF := Lib.hid (RZ0.out.set cs)
    have BF := Lib.hid (below_setRow BT0.out (by omega) (b := w.heap.size + 1 + 1) cs)
    go_upto_region 3 with (fail)
    go_wp2_with (first | (refine wpList_load_any (by rfl) 33 (.tmp 4) rfl w.heap.size rfl 33 cs (0, 0) _ RA0.out Tryz.underlying33 rfl (by rw [HZC.out]; exact i12) ?_) | (refine wpList_plain rfl fun _ hK => wp_store_row 33 (.tmp 6) (.tmp 24) rfl (w.heap.size + 1 + 1) cs rfl rfl 33 _ RZ0.out (by rw [HZC.out]; exact i12) (by rw [HZC.out]; rfl) H1C.out (hK _ _ ?_); clear hK))
    (try simp only [Exit.inBlock, Exit.then])
    refine bodyPost_ret (results_cell_tmp rfl _ _ (w.heap.size + 1 + 1) 33 cs (0, 0) _ rfl ZF.out Tryz.underlying33 rfl (by rw [HZC.out]; exact i12)) rfl ?_
    exact ⟨by rw [HE.out, HC.out]; rfl, BF.out⟩
  | some g =>
    rw [hk] at ev
    have hd := hv2 g hk
    change _ = Result.ok (Value.tuple #[v, .bool true]) u0 at ev
    obtain ⟨fn, p, q, rfl, hE, hdo⟩ := hd
    cases hr : rightS s with
    | false =>
      have HE : Hid (stepS s r = (s, false)) := Lib.hid (HWR.out hr)
      rw [hr] at HRG
      clear hv1 hv2 hk hdo hr
      go_wp2_with (refine wpList_load_any (by rfl) 33 (.tmp 4) rfl w.heap.size rfl 33 cs (0, 0) _ RA0.out Tryz.underlying33 rfl (by rw [HZC.out]; exact i12) ?_)
      refine (HRG.out _).mono ?_
      rintro e u1 ⟨rfl, hb⟩
      have RA1 := Lib.hid (RA0.out.under hb RA0.out.lt)
      have RZ1 := Lib.hid (RZ0.out.under hb RZ0.out.lt)
      have BT1 := Lib.hid (BT0.out.trans (hb.mono BT0.out.size))
      clear hb
      have ZF := Lib.hid (RZ1.out.set cs)
      have BF := Lib.hid (below_setRow BT1.out (by omega) (b := w.heap.size + 1 + 1) cs)
      go_upto_region 3 with (fail)
      go_wp2_with (first | (refine wpList_load_any (by rfl) 33 (.tmp 4) rfl w.heap.size rfl 33 cs (0, 0) _ RA1.out Tryz.underlying33 rfl (by rw [HZC.out]; exact i12) ?_) | (refine wpList_plain rfl fun _ hK => wp_store_row 33 (.tmp 6) (.tmp 24) rfl (w.heap.size + 1 + 1) cs rfl rfl 33 _ RZ1.out (by rw [HZC.out]; exact i12) (by rw [HZC.out]; rfl) H1C.out (hK _ _ ?_); clear hK))
      (try simp only [Exit.inBlock, Exit.then])
      refine bodyPost_ret (results_cell_tmp rfl _ _ (w.heap.size + 1 + 1) 33 cs (0, 0) _ rfl ZF.out Tryz.underlying33 rfl (by rw [HZC.out]; exact i12)) rfl ?_
      exact ⟨by rw [HE.out, HC.out]; rfl, BF.out⟩
    | true =>
      have HCC : Hid (∀ W, Below u0.heap.size u0 W → Calls Tryz.prog fn #[.agg cs, .agg rs, .pointer (some ⟨p, 0, none⟩), .pointer (some ⟨q, 0, none⟩)] W fun e w' => e = .returned (.tuple #[.agg xc, .bool xb]) ∧ Below W.heap.size W w') := Lib.hid (fun W hW => by
        have h1 := hdo W (fun k _ h2 => hW.block k h2) s r hr
        rw [HYES.out g hk hr, ← HX.out] at h1
        unfold StepR stV recV at h1
        rw [← HC.out, ← HRR.out, ← HXC.out, ← HXB.out] at h1
        exact h1)
      unfold EntersC at hE
      rw [hr] at HRG
      clear hv1 hv2 hk hdo hr
      go_wp2_with (refine wpList_load_any (by rfl) 33 (.tmp 4) rfl w.heap.size rfl 33 cs (0, 0) _ RA0.out Tryz.underlying33 rfl (by rw [HZC.out]; exact i12) ?_)
      refine (HRG.out _).mono ?_
      rintro e u1 ⟨rfl, hb⟩
      have RA1 := Lib.hid (RA0.out.under hb RA0.out.lt)
      have RB1 := Lib.hid (RB0.out.under hb RB0.out.lt)
      have RZ1 := Lib.hid (RZ0.out.under hb RZ0.out.lt)
      have BT1 := Lib.hid (BT0.out.trans (hb.mono BT0.out.size))
      have HC1 := Lib.hid (HCC.out u1 hb)
      clear hb q0 ev
      go_upto_region 4 with (fail)
      go_wp2_with (first | (refine wpList_load_any (by rfl) 33 (.tmp 4) rfl w.heap.size rfl 33 cs (0, 0) _ RA1.out Tryz.underlying33 rfl (by rw [HZC.out]; exact i12) ?_) | (refine wpList_load_any (by rfl) 85 (.tmp 5) rfl (w.heap.size + 1) rfl 85 rs (0, 0) _ RB1.out Tryz.underlying85 rfl (by rw [HZR.out]; exact i19) ?_))
      refine HC1.out.mono ?_
      rintro e u2 ⟨rfl, hb⟩
      have RZ2 := Lib.hid (RZ1.out.under hb RZ1.out.lt)
      have BT2 := Lib.hid (BT1.out.trans (hb.mono BT1.out.size))
      clear hb
      have ZF := Lib.hid (RZ2.out.set xc)
      have BF := Lib.hid (below_setRow BT2.out (by omega) (b := w.heap.size + 1 + 1) xc)
      go_wp2_with (refine wpList_plain rfl fun _ hK => wp_store_row 33 (.tmp 6) (.tmp 29) rfl (w.heap.size + 1 + 1) xc rfl rfl 33 _ RZ2.out (by rw [HZX.out]; exact i12) (by rw [HZX.out]; rfl) H1X.out (hK _ _ ?_); clear hK)
      (try simp only [Exit.inBlock, Exit.then])
      refine bodyPost_ret (results_cell_tmp rfl _ _ (w.heap.size + 1 + 1) 33 xc (0, 0) _ rfl ZF.out Tryz.underlying33 rfl (by rw [HZX.out]; exact i12)) rfl ?_
      exact ⟨by rw [← HX.out, HXC.out]; show _ = Ending.returned (.tuple #[stV x.1, .bool x.2]); rw [← HXB.out]; rfl, BF.out⟩
set_option maxRecDepth 100000 in
set_option maxHeartbeats 4000000 in
theorem step_any (s : St) (r : Rc) (w : World) (hk : Fits r.kind) : Calls Tryz.prog 66 #[stV s, recV r] w (StepR (stepS s r) w) := by
  obtain ⟨x, hx⟩ : ∃ x : St × Bool, x = stepS s r := ⟨_, rfl⟩
  have HSB : Hid (∀ m n W, Tab m W changesT n → Calls Tryz.prog 83 #[.map (some m), stV s, recV r] W (StepR (stepS s r) W)) := Lib.hid (fun m n W h => stepBy_any m n s r W h hk)
  rw [← hx] at HSB ⊢
  obtain ⟨xc, hxc⟩ : ∃ c, c = stC x.1 := ⟨_, rfl⟩
  obtain ⟨xb, hxb⟩ : ∃ b, b = x.2 := ⟨_, rfl⟩
  have HXC := Lib.hid hxc
  have HXB := Lib.hid hxb
  have HZX : Hid (xc.size = 12) := Lib.hid (by rw [hxc]; rfl)
  have H1X : Hid (xc.all (·.oneCell') = true) := Lib.hid (by rw [hxc]; exact stC_one _)
  unfold StepR stV at HSB
  rw [← hxc, ← hxb] at HSB
  unfold stV recV
  unfold recV at HSB
  obtain ⟨cs, hcs⟩ : ∃ c, c = stC s := ⟨_, rfl⟩
  obtain ⟨rs, hrs⟩ : ∃ c, c = recC r := ⟨_, rfl⟩
  rw [← hcs, ← hrs] at HSB ⊢
  have HZC : Hid (cs.size = 12) := Lib.hid (by rw [hcs]; rfl)
  have HZR : Hid (rs.size = 19) := Lib.hid (by rw [hrs]; rfl)
  clear hcs hrs hx hxc hxb hk
  go_enter Tryz.func66, Tryz.ntmps66
  go_upto_region 1 with (fail)
  refine name_w (fun W => Rw W w.heap.size cs 33 ∧ Rw W (w.heap.size + 1) rs 85 ∧ Rw W (w.heap.size + 1 + 1) zeroSC 33 ∧ Below w.heap.size w W) ⟨((Rw.new _ _ _).alloc _).alloc _, Rw.alloc (heap_alloc2_new w _ _) _, ?_, (((Below.refl _ _).alloc (Nat.le_refl _) _).alloc (by simp) _).alloc (by simp; omega) _⟩ ?_
  · have h1 := Rw.new ((w.alloc (.cells cs 33)).alloc (.cells rs 85)) zeroSC 33
    rw [size_alloc, size_alloc] at h1
    exact h1
  rintro u0 ⟨hA, hB, hZ, hb⟩
  have RA0 := Lib.hid hA
  have RB0 := Lib.hid hB
  have RZ0 := Lib.hid hZ
  have BT0 := Lib.hid hb
  clear hA hB hZ hb
  refine wp_region_held_drew (S := fun W => Rw W w.heap.size cs 33 ∧ Rw W (w.heap.size + 1) rs 85) (by kernel_rfl) ⟨RA0.out, RB0.out⟩ (fun hHeld => ?_)
  refine wpAnyH_take (i := 1) (oi := { dst := some 7, op := Op.load 33 (Operand.tmp 2), type := 33, pos := "fold.go:25", after := #[], guard := none }) (v := .agg cs) rfl (by kernel_rfl) (by kernel_rfl) (by kernel_rfl) (fun _ _ _ h => h) (Or.inl ⟨by rfl, fun W hS => exec_load_row 33 (.tmp 2) rfl w.heap.size rfl 33 cs (0, 0) _ hS.1 Tryz.underlying33 rfl (by rw [HZC.out]; exact i12)⟩) hHeld ?_
  (try simp only [Act.put, List.setIfInBounds_toArray, List.set_cons_zero, List.set_cons_succ])
  refine wpAnyH_take (i := 2) (oi := { dst := some 8, op := Op.load 85 (Operand.tmp 3), type := 85, pos := "fold.go:25", after := #[], guard := none }) (v := .agg rs) rfl (by kernel_rfl) (by kernel_rfl) (by kernel_rfl) (fun _ _ _ h => h) (Or.inl ⟨by rfl, fun W hS => exec_load_row 85 (.tmp 3) rfl (w.heap.size + 1) rfl 85 rs (0, 0) _ hS.2 Tryz.underlying85 rfl (by rw [HZR.out]; exact i19)⟩) hHeld ?_
  (try simp only [Act.put, List.setIfInBounds_toArray, List.set_cons_zero, List.set_cons_succ])
  refine wpAnyH_ready (rs := [0]) (by kernel_rfl) (by simp) ?_
  refine AllReadyH.cons (o := { dst := some 6, op := Op.call { callee := Callee.value (Operand.func 84), args := #[], argTypes := #[] }, type := 133, pos := "fold.go:25", after := #[], guard := none }) rfl (fun K hK => ?_) AllReadyH.nil
  go_simp
  refine (changes_any _).mono ?_
  rintro e u1 ⟨rfl, hT, hb⟩
  have RA1 := Lib.hid (Rw.under (W := u0.drew) RA0.out hb RA0.out.lt)
  have RB1 := Lib.hid (Rw.under (W := u0.drew) RB0.out hb RB0.out.lt)
  have RZ1 := Lib.hid (Rw.under (W := u0.drew) RZ0.out hb RZ0.out.lt)
  have BT1 := Lib.hid ((below_drew BT0.out).trans (hb.mono BT0.out.size))
  have HS1 := Lib.hid (HSB.out _ _ u1 hT)
  clear hb hT
  refine hK.out _ _ ?_ (fun hHeld => ?_)
  · exact ⟨RA1.out, RB1.out⟩
  clear hK K
  (try simp only [Act.put, List.setIfInBounds_toArray, List.set_cons_zero, List.set_cons_succ])
  refine wpAnyH_ready (rs := [3]) (by kernel_rfl) (by simp) ?_
  refine AllReadyH.cons (o := { dst := some 9, op := Op.call { callee := Callee.value (Operand.func 83), args := #[Operand.tmp 6, Operand.tmp 7, Operand.tmp 8], argTypes := #[133, 33, 85] }, type := 65, pos := "fold.go:25", after := #[{ on := 0, ground := Ground.data }, { on := 1, ground := Ground.data }, { on := 2, ground := Ground.data }, { on := 0, ground := Ground.chain }], guard := none }) rfl (fun K hK => ?_) AllReadyH.nil
  go_simp
  refine HS1.out.mono ?_
  rintro e u2 ⟨rfl, hb⟩
  have RA2 := Lib.hid (RA1.out.under hb RA1.out.lt)
  have RB2 := Lib.hid (RB1.out.under hb RB1.out.lt)
  have RZ2 := Lib.hid (RZ1.out.under hb RZ1.out.lt)
  have BT2 := Lib.hid (BT1.out.trans (hb.mono BT1.out.size))
  clear hb
  refine hK.out _ _ ?_ (fun hHeld => ?_)
  · exact ⟨RA2.out, RB2.out⟩
  clear hK K
  (try simp only [Act.put, List.setIfInBounds_toArray, List.set_cons_zero, List.set_cons_succ])
  refine wpAnyH_take (i := 4) (oi := { dst := some 10, op := Op.extract (Operand.tmp 9) 0, type := 33, pos := "fold.go:25", after := #[{ on := 3, ground := Ground.data }], guard := none }) (v := ?_) rfl (by kernel_rfl) (by kernel_rfl) (by kernel_rfl) (fun _ _ _ h => h) (Or.inl ⟨by rfl, ?_⟩) hHeld ?_
  rotate_left
  · intro W hSw
    clear hSw
    first | (go_simp; done) | (go_simp; with_reducible rfl)
  (try simp only [Act.put, List.setIfInBounds_toArray, List.set_cons_zero, List.set_cons_succ])
  refine wpAnyH_take (i := 5) (oi := { dst := some 11, op := Op.extract (Operand.tmp 9) 1, type := 4, pos := "fold.go:25", after := #[{ on := 3, ground := Ground.data }], guard := none }) (v := ?_) rfl (by kernel_rfl) (by kernel_rfl) (by kernel_rfl) (fun _ _ _ h => h) (Or.inl ⟨by rfl, ?_⟩) hHeld ?_
  rotate_left
  · intro W hSw
    clear hSw
    first | (go_simp; done) | (go_simp; with_reducible rfl)
  (try simp only [Act.put, List.setIfInBounds_toArray, List.set_cons_zero, List.set_cons_succ])
  have ZF := Lib.hid (RZ2.out.set xc)
  have BF := Lib.hid (below_setRow BT2.out (by omega) (b := w.heap.size + 1 + 1) xc)
  have RAF : Hid (Rw (u2.setRow (w.heap.size + 1 + 1) xc) w.heap.size cs 33) := Lib.hid ((setRow_block _ _ _ _ (by omega)).trans RA2.out)
  have RBF : Hid (Rw (u2.setRow (w.heap.size + 1 + 1) xc) (w.heap.size + 1) rs 85) := Lib.hid ((setRow_block _ _ _ _ (by omega)).trans RB2.out)
  refine wpAnyH_ready (rs := [6]) (by kernel_rfl) (by simp) ?_
  refine AllReadyH.cons (o := { dst := none, op := Op.store 33 (Operand.tmp 4) (Operand.tmp 10), type := 0, pos := "fold.go:25", after := #[{ on := 4, ground := Ground.data }, { on := 3, ground := Ground.chain }, { on := 0, ground := Ground.phase }, { on := 1, ground := Ground.phase }, { on := 2, ground := Ground.phase }, { on := 3, ground := Ground.phase }, { on := 4, ground := Ground.phase }, { on := 5, ground := Ground.phase }], guard := none }) rfl (fun K hK => ?_) AllReadyH.nil
  rw [if_pos (by rfl)]
  refine wp_store_row 33 (.tmp 4) (.tmp 10) rfl (w.heap.size + 1 + 1) xc rfl rfl 33 _ RZ2.out (by rw [HZX.out]; exact i12) (by rw [HZX.out]; rfl) H1X.out ?_
  refine hK.out _ _ ?_ (fun hHeld => ?_)
  · exact ⟨RAF.out, RBF.out⟩
  clear hK K
  (try simp only [Act.put])
  refine wpAnyH_take (i := 7) (oi := { dst := some 5, op := Op.assign (Operand.tmp 11), type := 4, pos := "fold.go:25", after := #[{ on := 5, ground := Ground.data }, { on := 6, ground := Ground.chain }, { on := 0, ground := Ground.phase }, { on := 1, ground := Ground.phase }, { on := 2, ground := Ground.phase }, { on := 3, ground := Ground.phase }, { on := 4, ground := Ground.phase }, { on := 5, ground := Ground.phase }, { on := 6, ground := Ground.phase }], guard := none }) (v := ?_) rfl (by kernel_rfl) (by kernel_rfl) (by kernel_rfl) (fun _ _ _ h => h) (Or.inl ⟨by rfl, ?_⟩) hHeld ?_
  rotate_left
  · intro W hSw
    clear hSw
    first | (go_simp; done) | (go_simp; with_reducible rfl)
  (try simp only [Act.put, List.setIfInBounds_toArray, List.set_cons_zero, List.set_cons_succ])
  refine wpAnyH_done (by kernel_rfl) ?_ _
  go_wp2
  (try simp only [Exit.inBlock, Exit.then])
  refine bodyPost_ret (results_cell_tmp rfl _ _ (w.heap.size + 1 + 1) 33 xc (0, 0) _ rfl ZF.out Tryz.underlying33 rfl (by rw [HZX.out]; exact i12)) rfl ?_
  exact ⟨by rw [HXC.out]; show _ = Ending.returned (.tuple #[stV x.1, .bool x.2]); rw [← HXB.out]; rfl, BF.out⟩
end Go.Proofs.YtchaeidmjoelnaaGreat
namespace Go.Proofs.YtchaeidmjoelnaaGreat
open Go.RowKit

theorem c3 : Tryz.prog.cellsOf 3 = 1 := by kernel_rfl
theorem c4 : Tryz.prog.cellsOf 4 = 1 := by kernel_rfl
theorem c22 : Tryz.prog.cellsOf 30 = 2 := by kernel_rfl
theorem c23 : Tryz.prog.cellsOf 31 = 2 := by kernel_rfl
theorem c25 : Tryz.prog.cellsOf 33 = 12 := by kernel_rfl
theorem c27 : Tryz.prog.cellsOf 85 = 19 := by kernel_rfl
theorem wfI_of {a : Int} (h : Fits a) : (Lit.int .i64 a).wf = true := by
  unfold Fits at h
  simp [Lit.wf, IntKind.min, IntKind.max, IntKind.signed, IntKind.bits]
  omega
theorem kl3 (d : Nat) {a : Int} (h : Fits a) : Tryz.prog.keyLits (d + 1) 3 [.int .i64 a] = some [.int .i64 a] := by
  simp [Program.keyLits, Tryz.underlying3, wfI_of h]
theorem kl4 (d : Nat) (a : Bool) : Tryz.prog.keyLits (d + 1) 4 [.bool a] = some [.bool a] := by
  simp [Program.keyLits, Tryz.underlying4]
theorem kl22 (d : Nat) {a b : Int} (ha : Fits a) (hb : Fits b) : Tryz.prog.keyLits (d + 2) 30 [.int .i64 a, .int .i64 b] = some [.int .i64 a, .int .i64 b] := by
  unfold Program.keyLits
  simp only [Tryz.underlying30]
  simp [c22, c3, List.range_succ, kl3 d ha, kl3 d hb]
theorem kl23 (d : Nat) (a b : Bool) : Tryz.prog.keyLits (d + 2) 31 [.bool a, .bool b] = some [.bool a, .bool b] := by
  unfold Program.keyLits
  simp only [Tryz.underlying31]
  simp [c23, c4, List.range_succ, kl4 d]
/-- All of a state's numbers are ones that an int can be. -/
structure FitsS (s : St) : Prop where
  ph : Fits s.ph
  ac : Fits s.ac
  r0 : Fits s.r0
  r1 : Fits s.r1
  w0 : Fits s.w0
  w1 : Fits s.w1
  dl : Fits s.dl
  gn : Fits s.gn
  sw : Fits s.sw
  fl : Fits s.fl
/-- All of a record's numbers are ones that an int can be. -/
structure FitsR (r : Rc) : Prop where
  kind : Fits r.kind
  rev : Fits r.rev
  cnt : Fits r.cnt
  delay : Fits r.delay
  gen : Fits r.gen
  tick : Fits r.tick
  st : FitsS r.st
def stL (s : St) : List Lit := [.int .i64 s.ph, .int .i64 s.ac, .int .i64 s.r0, .int .i64 s.r1, .int .i64 s.w0, .int .i64 s.w1, .bool s.p0, .bool s.p1, .int .i64 s.dl, .int .i64 s.gn, .int .i64 s.sw, .int .i64 s.fl]
theorem kl25 (d : Nat) {s : St} (h : FitsS s) : Tryz.prog.keyLits (d + 3) 33 (stC s).toList = some (stL s) := by
  have h3 := fun (a : Int) (ha : Fits a) => kl3 (d + 1) ha
  unfold Program.keyLits
  simp only [Tryz.underlying33]
  simp [stC, c25, c3, c22, c23, h3 _ h.ph, h3 _ h.ac, kl22 d h.r0 h.r1, kl22 d h.w0 h.w1, kl23 d, h3 _ h.dl, h3 _ h.gn, h3 _ h.sw, h3 _ h.fl]
  rfl
theorem kt25 : Tryz.prog.keyTypeAt 10 33 = true := by kernel_rfl
theorem kt22 : Tryz.prog.keyTypeAt 10 30 = true := by kernel_rfl
/-- A state is equal to itself. -/
theorem eq25 {a : St} (ha : FitsS a) (w : World) : (Op.equalIn 10000 33 (.agg (stC a)) (.agg (stC a))).run Tryz.prog w = .ok true w := by
  obtain ⟨r, hr, hi⟩ := run_equalIn_deep 9990 10 33 kt25 w 3 3 (.agg (stC a)) (.agg (stC a)) _ _ (by kernel_rfl) (by kernel_rfl) (kl25 0 ha) (kl25 0 ha)
  rw [hr, hi.2 rfl]
theorem eq22 {a b : Int} (ha : Fits a) (hb : Fits b) (w : World) : (Op.equalIn 10000 30 (.agg #[.int .i64 a, .int .i64 b]) (.agg #[.int .i64 a, .int .i64 b])).run Tryz.prog w = .ok true w := by
  obtain ⟨r, hr, hi⟩ := run_equalIn_deep 9990 10 30 kt22 w 2 2 (.agg #[.int .i64 a, .int .i64 b]) (.agg #[.int .i64 a, .int .i64 b]) _ _ (by kernel_rfl) (by kernel_rfl) (kl22 0 ha hb) (kl22 0 ha hb)
  rw [hr, hi.2 rfl]
theorem fits_small {a : Int} (h0 : 0 ≤ a) (h1 : a ≤ 1073741824) : Fits a := by unfold Fits; omega
theorem right_fits {s : St} (h : rightS s = true) : FitsS s := by
  rw [right_parts] at h
  simp only [Bool.and_eq_true] at h
  have h1 := h.1.1.1
  unfold rangesS inR at h1
  simp at h1
  constructor <;> (unfold Fits; omega)
end Go.Proofs.YtchaeidmjoelnaaGreat
