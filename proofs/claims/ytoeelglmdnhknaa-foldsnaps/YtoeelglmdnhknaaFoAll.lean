/-
  What package fold's All answers, whatever the records.
-/
import Derived.Test.YtoeelglmdnhknaaFoAllB
import Derived.Test.YtoeelglmdnhknaaFoAllC
import Derived.Test.YtoeelglmdnhknaaFoAllD
import Derived.Test.YtoeelglmdnhknaaFoAllE
namespace Go.Proofs.Ytoeelglmdnhknaa
open Go.RowKit

set_option maxRecDepth 100000 in
set_option maxHeartbeats 4000000 in
theorem all_nil (s : St) (w : World) : Calls Try.prog 16 #[stV s, .slice none 0 0] w (AllR (allS s []) w) := by
  have HE : Hid (allS s [] = (s, 0)) := Lib.hid rfl
  unfold stV
  obtain ⟨cs, hcs⟩ : ∃ c, c = stC s := ⟨_, rfl⟩
  rw [← hcs]
  have HC := Lib.hid hcs
  have HZC : Hid (cs.size = 12) := Lib.hid (by rw [hcs]; rfl)
  have H1C : Hid (cs.all (·.oneCell') = true) := Lib.hid (by rw [hcs]; exact stC_one _)
  clear hcs
  go_enter Try.func16, Try.ntmps16
  go_upto_region 1 with (fail)
  refine name_w (fun W => Rw W w.heap.size cs 25 ∧ Rw W (w.heap.size + 1) zeroSC 25 ∧ Below w.heap.size w W) ⟨(Rw.new _ _ _).alloc _, heap_alloc2_new w _ _, ((Below.refl _ _).alloc (Nat.le_refl _) _).alloc (by simp) _⟩ ?_
  rintro u0 ⟨h1, h2, h3⟩
  have RA0 := Lib.hid h1
  have RZ0 := Lib.hid h2
  have BT0 := Lib.hid h3
  clear h1 h2 h3
  go_wp2_with fail
  refine (changes_any _).mono ?_
  rintro e u3 ⟨rfl, _, hb⟩
  have RA3 := Lib.hid (RA0.out.under hb RA0.out.lt)
  have RZ3 := Lib.hid (RZ0.out.under hb RZ0.out.lt)
  have BT3 := Lib.hid (BT0.out.trans (hb.mono BT0.out.size))
  clear hb RA0 RZ0 BT0
  go_wp2
  refine wp_loop_rounds 1 ?_
  rw [rounds_succ]
  have ZF := Lib.hid (RZ3.out.set cs)
  have BF := Lib.hid (below_setRow BT3.out (by omega) (b := w.heap.size + 1) cs)
  go_upto_region 13 with (fail)
  go_wp2_with (first | (refine wpList_load_row rfl 25 (.tmp 2) rfl w.heap.size rfl 25 cs (0, 0) _ RA3.out Try.underlying25 rfl (by rw [HZC.out]; exact i12) ?_) | (refine wpList_plain rfl fun _ hK => wp_store_row 25 (.tmp 4) (.tmp 55) rfl (w.heap.size + 1) cs rfl rfl 25 _ RZ3.out (by rw [HZC.out]; exact i12) (by rw [HZC.out]; rfl) H1C.out (hK _ _ ?_); clear hK))
  (try simp only [Exit.inBlock, Exit.then])
  refine bodyPost_ret (results_cell_tmp rfl _ _ (w.heap.size + 1) 25 cs (0, 0) _ rfl ZF.out Try.underlying25 rfl (by rw [HZC.out]; exact i12)) rfl ?_
  exact ⟨by rw [HE.out, HC.out]; rfl, BF.out⟩

theorem all_any (s : St) (rs : List Rc) (v : Value) (w : World) (h : Recs w v rs) (hn : rs.length ≤ 1000) (hfr : ∀ r ∈ rs, Fits r.kind) : Calls Try.prog 16 #[stV s, v] w (AllR (allS s rs) w) := by
  rcases h with ⟨rfl, rfl⟩ | ⟨b, o, c, rfl, h1, h2, h3⟩
  · exact all_nil s w
  · cases rs with
    | nil => exact all_none s [] b o c w hn h1 h2 h3 hfr rfl
    | cons r rest =>
      by_cases hk : r.kind = 11
      · cases hr : rightS r.st with
        | false => exact all_wrong s (r :: rest) b o c w hn h1 h2 h3 hfr r rfl hk hr
        | true =>
          simp only [List.length_cons] at hn h1 h3
          have hr1 : w.rangeAt b o (recC r).toList := by
            have h := h3 0 (by omega)
            simpa using h
          by_cases hc : c = 1
          · subst hc
            exact all_snap1 s r rest b o w (by omega) (by omega) h2 (fun k hk => by omega) hr1 (fun x hx => hfr x (List.mem_cons_of_mem _ hx)) hk hr
          · exact all_snap s r rest b o c w (by omega) (by omega) hc h2 (fun k hk => by
              have h := h3 (k + 1) (by omega)
              rw [show o + (k + 1) * 19 = o + 19 + k * 19 by omega] at h
              simpa using h) hr1 (fun x hx => hfr x (List.mem_cons_of_mem _ hx)) hk hr
      · exact all_other s (r :: rest) b o c w hn h1 h2 h3 hfr r rfl hk
end Go.Proofs.Ytoeelglmdnhknaa
