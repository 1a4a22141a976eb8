/-
  What package fold's closures answer: a change that comes in some phases, or under a switch, alone.
-/
import Derived.Test.YtchaeidmjoelnaaFoChC
import Derived.Shelf.Abstract
namespace Go.Proofs.Ytchaeidmjoelnaa
open Go.RowKit

def ints (xs : List Int) : List Value := xs.map (Value.int .i64)
theorem ints_at (xs : List Int) (k : Nat) (h : k < xs.length) : (ints xs)[k]? = some (.int .i64 xs[k]) := by simp [ints, h]
def CallsC (c : Nat) (g : St × Bool) (s : St) (r : Rc) : Prop := ∀ W, Calls Try.prog c #[stV s, recV r] W (StepR g W)
def EntersC (c : Nat) : Prop := ∀ (args : Array Value) (w : World), (callFunc c args).run Try.prog w = .ok (.enter c args) w
def inS (ps : List Int) (g : St → Rc → St × Bool) (s : St) (r : Rc) : St × Bool := if s.ph ∈ ps then g s r else (s, false)
def underS (far : Int) (g : St → Rc → St × Bool) (s : St) (r : Rc) : St × Bool := if s.sw ≠ far ∨ r.gen ≠ s.gn then (s, false) else g s r
set_option maxRecDepth 100000 in
set_option maxHeartbeats 4000000 in
theorem in1_any (c : Nat) (g : St → Rc → St × Bool) (ps : List Int) (b1 b2 b3 : Nat) (s : St) (r : Rc) (w : World) (hE : EntersC c) (hc : s.ph ∈ ps → CallsC c (g s r) s r) (hn : ps.length ≤ 10)
    (h1 : Rw w b1 #[.slice (some ⟨b3, 0, none⟩) ps.length ps.length] 32) (h2 : Rw w b2 #[.func (.func c) #[] #[]] 110) (h3 : Rw w b3 (ints ps).toArray 3) :
    Calls Try.prog 81 #[stV s, recV r, .pointer (some ⟨b1, 0, none⟩), .pointer (some ⟨b2, 0, none⟩)] w (StepR (inS ps g s r) w) := by
  have Hb1 := Lib.hid h1
  have Hb2 := Lib.hid h2
  have Hb3 := Lib.hid h3
  have HCC := Lib.hid hc
  clear h1 h2 h3 hc
  unfold EntersC at hE
  obtain ⟨ph, ac, r0, r1, w0, w1, p0, p1, dl, gn, sw, fl⟩ := s
  obtain ⟨kind, rev, cnt, delay, gen, tick, pass, st⟩ := r
  obtain ⟨x, hx⟩ : ∃ x : St × Bool, x = g (⟨ph, ac, r0, r1, w0, w1, p0, p1, dl, gn, sw, fl⟩ : St) (⟨kind, rev, cnt, delay, gen, tick, pass, st⟩ : Rc) := ⟨_, rfl⟩
  unfold CallsC at HCC
  unfold stV at HCC ⊢
  unfold recV at HCC ⊢
  obtain ⟨cs, hcs⟩ : ∃ c, c = stC (⟨ph, ac, r0, r1, w0, w1, p0, p1, dl, gn, sw, fl⟩ : St) := ⟨_, rfl⟩
  obtain ⟨rs, hrs⟩ : ∃ c, c = recC (⟨kind, rev, cnt, delay, gen, tick, pass, st⟩ : Rc) := ⟨_, rfl⟩
  rw [← hcs, ← hrs] at HCC ⊢
  rw [← hx] at HCC
  obtain ⟨xc, hxc⟩ : ∃ c, c = stC x.1 := ⟨_, rfl⟩
  have HX := Lib.hid hx
  have HXC := Lib.hid hxc
  have HZX : Hid (xc.size = 12) := Lib.hid (by rw [hxc]; rfl)
  have H1X : Hid (xc.all (·.oneCell') = true) := Lib.hid (by rw [hxc]; exact stC_one _)
  unfold StepR stV at HCC
  rw [← hxc] at HCC
  obtain ⟨xb, hxb⟩ : ∃ b, b = x.2 := ⟨_, rfl⟩
  rw [← hxb] at HCC
  have HXB := Lib.hid hxb
  have HC := Lib.hid hcs
  have HRR := Lib.hid hrs
  have HZC : Hid (cs.size = 12) := Lib.hid (by rw [hcs]; rfl)
  have HZR : Hid (rs.size = 19) := Lib.hid (by rw [hrs]; rfl)
  have H1C : Hid (cs.all (·.oneCell') = true) := Lib.hid (by rw [hcs]; exact stC_one _)
  clear hcs hrs hx hxc hxb
  simp only at HCC
  go_enter Try.func81, Try.ntmps81
  go_upto_region 1 with (fail)
  refine name_w (fun W => Rw W b1 #[.slice (some ⟨b3, 0, none⟩) ps.length ps.length] 32 ∧ Rw W b2 #[.func (.func c) #[] #[]] 110 ∧ Rw W b3 (ints ps).toArray 3 ∧ Rw W w.heap.size cs 38 ∧ Rw W (w.heap.size + 1) rs 72 ∧ Rw W (w.heap.size + 1 + 1) zeroSC 38 ∧ Below w.heap.size w W) ⟨((Hb1.out.alloc _).alloc _).alloc _, ((Hb2.out.alloc _).alloc _).alloc _, ((Hb3.out.alloc _).alloc _).alloc _, ((Rw.new _ _ _).alloc _).alloc _, Rw.alloc (heap_alloc2_new w _ _) _, ?_, (((Below.refl _ _).alloc (Nat.le_refl _) _).alloc (by simp) _).alloc (by simp; omega) _⟩ ?_
  · have h1 := Rw.new ((w.alloc (.cells cs 38)).alloc (.cells rs 72)) zeroSC 38
    rw [size_alloc, size_alloc] at h1
    exact h1
  rintro W ⟨kb1, kb2, kb3, hA, hB, hZ, hb⟩
  have Kb1 := Lib.hid kb1
  have Kb2 := Lib.hid kb2
  have Kb3 := Lib.hid kb3
  have RA := Lib.hid hA
  have RB := Lib.hid hB
  have RZ := Lib.hid hZ
  have BT := Lib.hid hb
  have l1 : W.cell? ⟨b1, 0, none⟩ = some (.slice (some ⟨b3, 0, none⟩) ps.length ps.length) := by rw [kb1.cell 0]; rfl
  have l2 : W.cell? ⟨b2, 0, none⟩ = some (.func (.func c) #[] #[]) := by rw [kb2.cell 0]; rfl
  have l3 : Hid (∀ k (h : k < ps.length), W.cell? ⟨b3, k, none⟩ = some (.int .i64 ps[k])) := Lib.hid (fun k h => by rw [kb3.cell k]; simpa using ints_at ps k h)
  have s0 : W.cell? ⟨w.heap.size, 0, none⟩ = some (.int .i64 ph) := by rw [hA.cell 0, HC.out]; rfl
  clear kb1 kb2 kb3 hA hB hZ hb Hb1 Hb2 Hb3
  go_wp2
  go_loopg [12] ps.length (fun m i wr => ∃ k : Nat, Hid (m = ps.length - k) ∧ k ≤ ps.length ∧ i = .int .i64 k ∧ Hid (∀ j (h : j < ps.length), j < k → ps[j] ≠ ph) ∧ wr = W)
  case atStart => exact ⟨0, Lib.hid rfl, Nat.zero_le _, rfl, Lib.hid (fun j _ h => by omega), rfl⟩
  case round =>
    obtain ⟨k, HG, hk, rfl, HP, rfl⟩ := hrel
    by_cases hlt : k < ps.length
    case pos =>
      have cj := l3.out k hlt
      by_cases hp : ph = ps[k]
      case pos =>
        have HCC := Lib.hid (HCC.out (by rw [hp]; exact List.getElem_mem hlt))
        have HE : Hid (inS ps g (⟨ph, ac, r0, r1, w0, w1, p0, p1, dl, gn, sw, fl⟩ : St) (⟨kind, rev, cnt, delay, gen, tick, pass, st⟩ : Rc) = g (⟨ph, ac, r0, r1, w0, w1, p0, p1, dl, gn, sw, fl⟩ : St) (⟨kind, rev, cnt, delay, gen, tick, pass, st⟩ : Rc)) := Lib.hid (by unfold inS; rw [if_pos (by show ph ∈ ps; rw [hp]; exact List.getElem_mem hlt)])
        have f1 : (ph == ps[k]) = true := by simpa using hp
        clear hp
        go_wp2_with (first | (refine wpList_load_any (by rfl) 38 (.tmp 4) rfl w.heap.size rfl 38 cs (0, 0) _ RA.out Try.underlying38 rfl (by rw [HZC.out]; exact i12) ?_) | (refine wpList_load_any (by rfl) 72 (.tmp 5) rfl (w.heap.size + 1) rfl 72 rs (0, 0) _ RB.out Try.underlying72 rfl (by rw [HZR.out]; exact i19) ?_))
        refine (HCC.out _).mono ?_
        rintro e u9 ⟨rfl, hb9⟩
        have RZ9 := Lib.hid (RZ.out.under hb9 RZ.out.lt)
        have BT9 := Lib.hid (BT.out.trans (hb9.mono BT.out.size))
        clear hb9
        have ZF := Lib.hid (RZ9.out.set xc)
        have BF := Lib.hid (below_setRow BT9.out (by omega) (b := w.heap.size + 1 + 1) xc)
        go_wp2_with (refine wpList_plain rfl fun _ hK => wp_store_row 38 (.tmp 6) (.tmp 24) rfl (w.heap.size + 1 + 1) xc rfl rfl 38 _ RZ9.out (by rw [HZX.out]; exact i12) (by rw [HZX.out]; rfl) H1X.out (hK _ _ ?_); clear hK)
        (try simp only [Exit.inBlock, Exit.then])
        refine bodyPost_ret (results_cell_tmp rfl _ _ (w.heap.size + 1 + 1) 38 xc (0, 0) _ rfl ZF.out Try.underlying38 rfl (by rw [HZX.out]; exact i12)) rfl ?_
        exact ⟨by rw [HE.out, ← HX.out, HXC.out]; show _ = Ending.returned (.tuple #[stV x.1, .bool x.2]); rw [← HXB.out]; rfl, BF.out⟩
      have f1 : (ph == ps[k]) = false := by simpa using hp
      have HQ := Lib.hid hp
      clear hp
      go_wp2
      go_roundg (ps.length - (k + 1))
      case measure => have := HG.out; omega
      case rel => exact ⟨k + 1, Lib.hid rfl, by omega, by simp, Lib.hid (fun j h1 h2 => by
          rcases Nat.lt_or_ge j k with h3 | h3
          · exact HP.out j h1 h3
          · obtain rfl : j = k := by omega
            exact fun e => HQ.out e.symm), rfl⟩
    have HE : Hid (inS ps g (⟨ph, ac, r0, r1, w0, w1, p0, p1, dl, gn, sw, fl⟩ : St) (⟨kind, rev, cnt, delay, gen, tick, pass, st⟩ : Rc) = ((⟨ph, ac, r0, r1, w0, w1, p0, p1, dl, gn, sw, fl⟩ : St), false)) := Lib.hid (by
      unfold inS
      rw [if_neg (by
        intro h
        obtain ⟨j, hj, e⟩ := List.mem_iff_getElem.1 h
        exact HP.out j hj (by omega) e)])
    have ZF := Lib.hid (RZ.out.set cs)
    have BF := Lib.hid (below_setRow BT.out (by omega) (b := w.heap.size + 1 + 1) cs)
    go_wp2_with (first | (refine wpList_load_any (by rfl) 38 (.tmp 4) rfl w.heap.size rfl 38 cs (0, 0) _ RA.out Try.underlying38 rfl (by rw [HZC.out]; exact i12) ?_) | (refine wpList_plain rfl fun _ hK => wp_store_row 38 (.tmp 6) (.tmp 27) rfl (w.heap.size + 1 + 1) cs rfl rfl 38 _ RZ.out (by rw [HZC.out]; exact i12) (by rw [HZC.out]; rfl) H1C.out (hK _ _ ?_); clear hK))
    (try simp only [Exit.inBlock, Exit.then])
    refine bodyPost_ret (results_cell_tmp rfl _ _ (w.heap.size + 1 + 1) 38 cs (0, 0) _ rfl ZF.out Try.underlying38 rfl (by rw [HZC.out]; exact i12)) rfl ?_
    exact ⟨by rw [HE.out, HC.out]; rfl, BF.out⟩
set_option maxRecDepth 100000 in
set_option maxHeartbeats 4000000 in
theorem under1_any (c : Nat) (g : St → Rc → St × Bool) (far : Int) (b1 b2 : Nat) (s : St) (r : Rc) (w : World) (hE : EntersC c) (hc : s.sw = far → r.gen = s.gn → CallsC c (g s r) s r)
    (h1 : Rw w b1 #[.int .i64 far] 3) (h2 : Rw w b2 #[.func (.func c) #[] #[]] 110) :
    Calls Try.prog 83 #[stV s, recV r, .pointer (some ⟨b1, 0, none⟩), .pointer (some ⟨b2, 0, none⟩)] w (StepR (underS far g s r) w) := by
  have Hb1 := Lib.hid h1
  have Hb2 := Lib.hid h2
  have HCC := Lib.hid hc
  clear h1 h2 hc
  unfold EntersC at hE
  obtain ⟨ph, ac, r0, r1, w0, w1, p0, p1, dl, gn, sw, fl⟩ := s
  obtain ⟨kind, rev, cnt, delay, gen, tick, pass, st⟩ := r
  obtain ⟨x, hx⟩ : ∃ x : St × Bool, x = g (⟨ph, ac, r0, r1, w0, w1, p0, p1, dl, gn, sw, fl⟩ : St) (⟨kind, rev, cnt, delay, gen, tick, pass, st⟩ : Rc) := ⟨_, rfl⟩
  unfold CallsC at HCC
  unfold stV at HCC ⊢
  unfold recV at HCC ⊢
  obtain ⟨cs, hcs⟩ : ∃ c, c = stC (⟨ph, ac, r0, r1, w0, w1, p0, p1, dl, gn, sw, fl⟩ : St) := ⟨_, rfl⟩
  obtain ⟨rs, hrs⟩ : ∃ c, c = recC (⟨kind, rev, cnt, delay, gen, tick, pass, st⟩ : Rc) := ⟨_, rfl⟩
  rw [← hcs, ← hrs] at HCC ⊢
  rw [← hx] at HCC
  obtain ⟨xc, hxc⟩ : ∃ c, c = stC x.1 := ⟨_, rfl⟩
  have HX := Lib.hid hx
  have HXC := Lib.hid hxc
  have HZX : Hid (xc.size = 12) := Lib.hid (by rw [hxc]; rfl)
  have H1X : Hid (xc.all (·.oneCell') = true) := Lib.hid (by rw [hxc]; exact stC_one _)
  unfold StepR stV at HCC
  rw [← hxc] at HCC
  obtain ⟨xb, hxb⟩ : ∃ b, b = x.2 := ⟨_, rfl⟩
  rw [← hxb] at HCC
  have HXB := Lib.hid hxb
  have HC := Lib.hid hcs
  have HRR := Lib.hid hrs
  have HZC : Hid (cs.size = 12) := Lib.hid (by rw [hcs]; rfl)
  have HZR : Hid (rs.size = 19) := Lib.hid (by rw [hrs]; rfl)
  have H1C : Hid (cs.all (·.oneCell') = true) := Lib.hid (by rw [hcs]; exact stC_one _)
  clear hcs hrs hx hxc hxb
  simp only at HCC
  go_enter Try.func83, Try.ntmps83
  go_upto_region 1 with (fail)
  refine name_w (fun W => Rw W b1 #[.int .i64 far] 3 ∧ Rw W b2 #[.func (.func c) #[] #[]] 110 ∧ Rw W w.heap.size cs 38 ∧ Rw W (w.heap.size + 1) rs 72 ∧ Rw W (w.heap.size + 1 + 1) zeroSC 38 ∧ Below w.heap.size w W) ⟨((Hb1.out.alloc _).alloc _).alloc _, ((Hb2.out.alloc _).alloc _).alloc _, ((Rw.new _ _ _).alloc _).alloc _, Rw.alloc (heap_alloc2_new w _ _) _, ?_, (((Below.refl _ _).alloc (Nat.le_refl _) _).alloc (by simp) _).alloc (by simp; omega) _⟩ ?_
  · have h1 := Rw.new ((w.alloc (.cells cs 38)).alloc (.cells rs 72)) zeroSC 38
    rw [size_alloc, size_alloc] at h1
    exact h1
  rintro W ⟨kb1, kb2, hA, hB, hZ, hb⟩
  have Kb1 := Lib.hid kb1
  have Kb2 := Lib.hid kb2
  have RA := Lib.hid hA
  have RB := Lib.hid hB
  have RZ := Lib.hid hZ
  have BT := Lib.hid hb
  have l1 : W.cell? ⟨b1, 0, none⟩ = some (.int .i64 far) := by rw [kb1.cell 0]; rfl
  have l2 : W.cell? ⟨b2, 0, none⟩ = some (.func (.func c) #[] #[]) := by rw [kb2.cell 0]; rfl
  have s9 : W.cell? ⟨w.heap.size, 9, none⟩ = some (.int .i64 gn) := by rw [hA.cell 9, HC.out]; rfl
  have s10 : W.cell? ⟨w.heap.size, 10, none⟩ = some (.int .i64 sw) := by rw [hA.cell 10, HC.out]; rfl
  have q4 : W.cell? ⟨w.heap.size + 1, 4, none⟩ = some (.int .i64 gen) := by rw [hB.cell 4, HRR.out]; rfl
  clear kb1 kb2 hA hB hZ hb Hb1 Hb2
  by_cases hs : sw = far
  case neg =>
    have HE : Hid (underS far g (⟨ph, ac, r0, r1, w0, w1, p0, p1, dl, gn, sw, fl⟩ : St) (⟨kind, rev, cnt, delay, gen, tick, pass, st⟩ : Rc) = ((⟨ph, ac, r0, r1, w0, w1, p0, p1, dl, gn, sw, fl⟩ : St), false)) := Lib.hid (by unfold underS; rw [if_pos (Or.inl hs)])
    have f1 : (sw != far) = true := by simpa using hs
    clear hs
    go_upto_region 2 with (fail)
    have ZF := Lib.hid (RZ.out.set cs)
    have BF := Lib.hid (below_setRow BT.out (by omega) (b := w.heap.size + 1 + 1) cs)
    go_wp2_with (first | (refine wpList_load_any (by rfl) 38 (.tmp 4) rfl w.heap.size rfl 38 cs (0, 0) _ RA.out Try.underlying38 rfl (by rw [HZC.out]; exact i12) ?_) | (refine wpList_plain rfl fun _ hK => wp_store_row 38 (.tmp 6) (.tmp 19) rfl (w.heap.size + 1 + 1) cs rfl rfl 38 _ RZ.out (by rw [HZC.out]; exact i12) (by rw [HZC.out]; rfl) H1C.out (hK _ _ ?_); clear hK))
    (try simp only [Exit.inBlock, Exit.then])
    refine bodyPost_ret (results_cell_tmp rfl _ _ (w.heap.size + 1 + 1) 38 cs (0, 0) _ rfl ZF.out Try.underlying38 rfl (by rw [HZC.out]; exact i12)) rfl ?_
    exact ⟨by rw [HE.out, HC.out]; rfl, BF.out⟩
  have f1 : (sw != far) = false := by simpa using hs
  by_cases hg : gen = gn
  case neg =>
    have HE : Hid (underS far g (⟨ph, ac, r0, r1, w0, w1, p0, p1, dl, gn, sw, fl⟩ : St) (⟨kind, rev, cnt, delay, gen, tick, pass, st⟩ : Rc) = ((⟨ph, ac, r0, r1, w0, w1, p0, p1, dl, gn, sw, fl⟩ : St), false)) := Lib.hid (by unfold underS; rw [if_pos (Or.inr hg)])
    have f2 : (gen != gn) = true := by simpa using hg
    clear hs hg
    go_upto_region 2 with (fail)
    have ZF := Lib.hid (RZ.out.set cs)
    have BF := Lib.hid (below_setRow BT.out (by omega) (b := w.heap.size + 1 + 1) cs)
    go_wp2_with (first | (refine wpList_load_any (by rfl) 38 (.tmp 4) rfl w.heap.size rfl 38 cs (0, 0) _ RA.out Try.underlying38 rfl (by rw [HZC.out]; exact i12) ?_) | (refine wpList_plain rfl fun _ hK => wp_store_row 38 (.tmp 6) (.tmp 19) rfl (w.heap.size + 1 + 1) cs rfl rfl 38 _ RZ.out (by rw [HZC.out]; exact i12) (by rw [HZC.out]; rfl) H1C.out (hK _ _ ?_); clear hK))
    (try simp only [Exit.inBlock, Exit.then])
    refine bodyPost_ret (results_cell_tmp rfl _ _ (w.heap.size + 1 + 1) 38 cs (0, 0) _ rfl ZF.out Try.underlying38 rfl (by rw [HZC.out]; exact i12)) rfl ?_
    exact ⟨by rw [HE.out, HC.out]; rfl, BF.out⟩
  have HCC := Lib.hid (HCC.out hs hg)
  have HE : Hid (underS far g (⟨ph, ac, r0, r1, w0, w1, p0, p1, dl, gn, sw, fl⟩ : St) (⟨kind, rev, cnt, delay, gen, tick, pass, st⟩ : Rc) = g (⟨ph, ac, r0, r1, w0, w1, p0, p1, dl, gn, sw, fl⟩ : St) (⟨kind, rev, cnt, delay, gen, tick, pass, st⟩ : Rc)) := Lib.hid (by unfold underS; rw [if_neg (fun h => h.elim (fun h => h hs) (fun h => h hg))])
  have f2 : (gen != gn) = false := by simpa using hg
  clear hs hg
  go_upto_region 3 with (fail)
  go_wp2_with (first | (refine wpList_load_any (by rfl) 38 (.tmp 4) rfl w.heap.size rfl 38 cs (0, 0) _ RA.out Try.underlying38 rfl (by rw [HZC.out]; exact i12) ?_) | (refine wpList_load_any (by rfl) 72 (.tmp 5) rfl (w.heap.size + 1) rfl 72 rs (0, 0) _ RB.out Try.underlying72 rfl (by rw [HZR.out]; exact i19) ?_))
  refine (HCC.out _).mono ?_
  rintro e u9 ⟨rfl, hb9⟩
  have RZ9 := Lib.hid (RZ.out.under hb9 RZ.out.lt)
  have BT9 := Lib.hid (BT.out.trans (hb9.mono BT.out.size))
  clear hb9
  have ZF := Lib.hid (RZ9.out.set xc)
  have BF := Lib.hid (below_setRow BT9.out (by omega) (b := w.heap.size + 1 + 1) xc)
  go_wp2_with (refine wpList_plain rfl fun _ hK => wp_store_row 38 (.tmp 6) (.tmp 24) rfl (w.heap.size + 1 + 1) xc rfl rfl 38 _ RZ9.out (by rw [HZX.out]; exact i12) (by rw [HZX.out]; rfl) H1X.out (hK _ _ ?_); clear hK)
  (try simp only [Exit.inBlock, Exit.then])
  refine bodyPost_ret (results_cell_tmp rfl _ _ (w.heap.size + 1 + 1) 38 xc (0, 0) _ rfl ZF.out Try.underlying38 rfl (by rw [HZX.out]; exact i12)) rfl ?_
  exact ⟨by rw [HE.out, ← HX.out, HXC.out]; show _ = Ending.returned (.tuple #[stV x.1, .bool x.2]); rw [← HXB.out]; rfl, BF.out⟩
end Go.Proofs.Ytchaeidmjoelnaa
