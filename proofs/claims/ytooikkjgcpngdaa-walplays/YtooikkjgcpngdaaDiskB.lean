/-
  What package disk's New, Write and Flush make of a disk.
-/
import Derived.Test.YtooikkjgcpngdaaDisk
import Derived.BigRegion
import Derived.BigQuiet
import Derived.Deep.AppendLies
namespace Go.Proofs.Ytooikkjgcpngdaa
open Go.RowKit

variable {P : Nat → Prop} {w : World} {B d f nb lb : Nat} {s : Dk} {fu : Fu} {ov : Value}

theorem within_nat (n lo hi : Int) (z : Nat) (h : (z : Int) = min (max n lo) hi) (w : World) : Calls Try.prog 30 #[.int .i64 n, .int .i64 lo, .int .i64 hi] w fun e w' => e = .returned (.int .i64 (z : Int)) ∧ w = w' := by
  rw [h]
  exact within_any n lo hi w

/-- A new disk. -/
def fresh (size n : Nat) : Dk := ⟨size, List.replicate n (same 0 size), List.replicate n (same 0 size), []⟩
theorem fresh_good (size n : Nat) (hs : size ≤ 1024) (hn : n ≤ 1024) (h0 : 0 < n) : (fresh size n).Good := by
  refine ⟨rfl, ?_, ?_, fun p hp => by simp [fresh] at hp, fun _ _ => rfl, hs, by simpa [fresh] using hn, by simpa [fresh] using h0⟩
  · intro x hx
    rw [List.eq_of_mem_replicate hx, same_size]
    rfl
  · intro x hx
    rw [List.eq_of_mem_replicate hx, same_size]
    rfl

set_option maxHeartbeats 1000000 in
theorem dnew_any (size n : Int) (z m : Nat) (hz : (z : Int) = min (max size 128) 1024) (hm : (m : Int) = min (max n 4) 1024) (hf : Fz w f 58 fu) (hB : B ≤ f) (_hBw : B ≤ w.heap.size) :
    Calls Try.prog 11 #[.int .i64 size, .int .i64 n, .pointer (some ⟨f, 0, none⟩)] w fun e w' => ∃ d nb lb, e = .returned (.pointer (some ⟨d, 0, none⟩)) ∧ InvP w' B (grow (fun k => k = f) w w') d f (fresh z m) fu nb lb (.slice none 0 0) ∧ Below w.heap.size w w' := by
  have hz1 : z ≤ 1024 := by omega
  have hm1 : m ≤ 1024 := by omega
  have HF := Lib.hid hf
  have HZ := Lib.hid hz
  have HM := Lib.hid hm
  clear hf hz hm
  go_enter Try.func11, Try.ntmps11
  go_wp2_with fail
  refine (within_nat size 128 1024 z HZ.out _).mono ?_
  rintro e w' ⟨rfl, rfl⟩
  go_wp2_with fail
  refine (within_nat n 4 1024 m HM.out _).mono ?_
  rintro e w' ⟨rfl, rfl⟩
  go_wp2_with fail
  refine (blank_any z m _ hz1 hm1).mono ?_
  rintro e w1 ⟨b1, rfl, hg1, hr1, hb1⟩
  have HG1 := Lib.hid hg1
  have HR1 := Lib.hid hr1
  have HB1 := Lib.hid hb1
  clear hg1 hr1 hb1
  go_wp2_with fail
  refine (blank_any z m _ hz1 hm1).mono ?_
  rintro e w2 ⟨b2, rfl, hg2, hr2, hb2⟩
  have HG2 := Lib.hid hg2
  have HR2 := Lib.hid hr2
  have HB2 := Lib.hid hb2
  clear hg2 hr2 hb2
  go_wp2
  go_ret
  have hlt1 := HR1.out.lt
  have hlt2 := HR2.out.lt
  have hs1 := HB1.out.size
  have hs2 := HB2.out.size
  have hff := HF.out.lt
  refine ⟨w2.heap.size, b1, b2, rfl, ?_, (HB1.out.trans (HB2.out.mono hs1)).alloc (by omega) _⟩
  refine ⟨?_, ?_, ?_, ?_, ?_, ?_, ?_, ?_, ?_, ?_, ?_, ?_⟩
  · rw [heap_alloc_new]
    simp [fresh]
  · exact (Below.heap_alloc w2 _ b1 (by omega)).trans ((HB2.out.block b1 hlt1).trans HR1.out)
  · exact (Below.heap_alloc w2 _ b2 hlt2).trans HR2.out
  · exact World.ownsRow_nil _ _ _ _
  · exact (Below.heap_alloc w2 _ f (by omega)).trans ((HB2.out.block f (by omega)).trans ((HB1.out.block f hff).trans HF.out))
  · have := HG2.out; omega
  · exact .inr ⟨by omega, by simp⟩
  · exact .inr ⟨HG1.out, by simp; omega⟩
  · exact .inr ⟨by have := HG2.out; omega, by simp; omega⟩
  · exact .inl rfl
  · intro g hg; cases hg
  · rintro k (rfl | ⟨h1, h2⟩)
    · exact ⟨hB, by simp; omega⟩
    · exact ⟨by omega, h2⟩

theorem Tinfo69 : (Try.prog.info? 82).map (fun i => (i.zero, i.size, i.bytes)) = some (some (.agg #[.int .i64 0, .string ⟨#[]⟩]), 2, 24) := by kernel_rfl

theorem cell_two_at (w : World) (a b : Value) (t : TypeId) (g : Nat) (hg : g = w.heap.size) : ∀ j u, [a, b][j]? = some u → (w.alloc (.cells #[a, b] t)).cell? ((⟨g, 0, none⟩ : Addr).add j) = some u := by
  subst hg
  exact cell_two_new w a b t

set_option maxHeartbeats 1000000 in
theorem write_ok (i : Nat) (b : ByteArray) (h : InvP w B P d f s fu nb lb ov) (hi : i < s.now.length) (hb : b.size = s.size) (hu : fu.Good) (hc : fu.count < 1000000) (ho : fu.ok = true) (hl : s.opn.length < 1000000) (hBw : B ≤ w.heap.size) :
    Calls Try.prog 55 #[.pointer (some ⟨d, 0, none⟩), .int .i64 (i : Int), .string b] w fun e w' => e = .returned (.int .i64 0) ∧ ∃ ov', InvP w' B (grow P w w') d f (s.write i b) fu.spent nb lb ov' ∧ Kept P w w' := by
  obtain ⟨i0, hi0, hz0, hz1, hz2⟩ := info_parts Tinfo69
  have c0 := h.c0
  have c4 := h.c4
  have e1 : ((b.size : Int) != (s.size : Int)) = false := by simp [hb]
  have HB := Lib.hid hb
  have HI := Lib.hid h
  clear h hb
  go_enter Try.func55, Try.ntmps55
  go_wp2_with fail
  refine (has_in i HI.out hi).mono ?_
  rintro e w' ⟨rfl, rfl⟩
  go_wp2_with fail
  refine (spend_yes HI.out.hf hu hc ho).mono ?_
  rintro e w1 ⟨rfl, hz, hon⟩
  have HI1 := Lib.hid (HI.out.fuse hz hon)
  have HK1 := Lib.hid ((Kept.refl P w).only hon fun _ => HI.out.pf)
  have hsz : w1.heap.size = w.heap.size := hon.size
  clear hz hon c0 c4
  have c1 := HI1.out.c1
  have n1 := HI1.out.hn.cell i hi
  obtain ⟨x, hx⟩ : ∃ x, x = s.now.getD i nil := ⟨_, rfl⟩
  rw [← hx] at n1
  clear hx
  have n2 := HI1.out.hn.fr i
  have HI2 := Lib.hid (HI1.out.setNow i b)
  have HK2 := Lib.hid (HK1.out.setCell (a := ⟨nb, i, none⟩) (fun _ => HI1.out.pn) (.string b))
  have hsz2 : (w1.setCell ⟨nb, i, none⟩ (.string b)).heap.size = w.heap.size := by simp [World.setCell, hsz]
  have c3 := HI2.out.c3
  have HS := Lib.hid hsz2
  have HS1 := Lib.hid hsz
  clear hsz hsz2
  obtain ⟨ao, cap0, hov⟩ := HI2.out.shape
  rw [hov] at c3
  go_wp2_with (at_builtin; go_must (refine wpList_append_lies _ rfl _ _ 61 rfl B 82 i0 (.agg #[.int .i64 0, .string ⟨#[]⟩]) 2 24 Try.underlying61 hi0 hz0 hz1 hz2 rfl (by decide) _ s.opn.length (prs s.opn) rfl (by rw [← hov]; exact HI2.out.ho.alloc _) ⟨w1.heap.size, 0, none⟩ 1 1 [.int .i64 (i : Int), .string b] rfl rfl (cell_two_at _ _ _ _ _ (by simp)) (by simp [Value.oneCell']) (by decide) (by unfold maxLen; omega) (by omega) (by have := HS1.out; simp; omega) _ rfl ?_); intro g cap w3 hown hgr hor hlt; obtain ⟨q3, q4⟩ := (HI2.out.alloc _).far (by rw [hov]; exact hgr))
  go_ret
  refine ⟨rfl, .slice (some ⟨g, 0, none⟩) (s.opn.length + 1) cap, ?_, ?_⟩
  · have hq : ∀ k, grow P w (w3.setCell ⟨d, 3, none⟩ (.slice (some ⟨g, 0, none⟩) (s.opn.length + 1) cap)) k → B ≤ k ∧ k < w3.heap.size := by
      rintro k (hk | ⟨h1, h2⟩)
      · exact ⟨(HI.out.lt k hk).1, by have := (HI.out.lt k hk).2; have := hgr.size; have := HS1.out; simp at *; omega⟩
      · exact ⟨by omega, by simpa [World.setCell] using h2⟩
    have hv : w3.ownsRow B 82 2 (.slice (some ⟨g, 0, none⟩) (s.opn.length + 1) cap) (s.opn ++ [(i, b)]).length (prs (s.opn ++ [(i, b)])) := by
      rw [prs_snoc, List.length_append]
      exact hown
    refine (HI2.out.alloc _).pushed (by rw [hov]; exact hgr) hv (fun k hk => .inl hk) ?_ hq
    intro g' hg'
    obtain rfl : g = g' := by simpa [Value.ownBlock] using hg'
    rcases hor with h1 | h1
    · exact .inl (HI2.out.po g (by rw [hov]; exact h1))
    · exact .inr ⟨by have := HS1.out; simp at h1; omega, by simpa [World.setCell] using hlt⟩
  · refine ((HK2.out.alloc _).grown hgr fun k hk _ => HI2.out.po k (by rw [hov]; exact hk)).setCell (fun _ => HI.out.pd) _
end Go.Proofs.Ytooikkjgcpngdaa
