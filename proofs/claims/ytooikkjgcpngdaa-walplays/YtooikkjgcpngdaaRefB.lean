/-
  The document's own Write and Flush.
-/
import Derived.Test.YtooikkjgcpngdaaRef
import Derived.Deep.Cut
namespace Go.Proofs.Ytooikkjgcpngdaa
open Go.RowKit

variable {P Q R : Nat → Prop} {w w' : World} {B m g : Nat} {fu : Fu} {size : Nat} {last now : List ByteArray} {wl : List Nat} {hl : List ByteArray} {lv nv wv hv : Value}

theorem cell_one_at (w : World) (a : Value) (t : TypeId) (g : Nat) (hg : g = w.heap.size) : ∀ j u, [a][j]? = some u → (w.alloc (.cells #[a] t)).cell? ((⟨g, 0, none⟩ : Addr).add j) = some u := by
  subst hg
  exact cell_one_new w a t
/-- What grew elsewhere leaves the head as it is. -/
theorem InvR.grown {w3 : World} {row : Option Nat} (h : InvR w B R m g fu size last now wl hl lv nv wv hv) (hg : w.grownBy w3 row) (hr : ∀ k, row = some k → ¬ R k) : InvR w3 B R m g fu size last now wl hl lv nv wv hv :=
  h.stays hg.size fun k hk => hg.block k (h.lt k hk).2 fun e => hr k e.symm hk

set_option maxHeartbeats 400000 in
theorem mwrite_low (i : Int) (b : ByteArray) (hi : i < 0) (w : World) (m : Nat) : Calls Try.prog 60 #[.pointer (some ⟨m, 0, none⟩), .int .i64 i, .string b] w fun e w' => e = .returned (.int .i64 1) ∧ w = w' := by
  have e1 : decide (i < 0) = true := by simpa using hi
  go_enter Try.func60, Try.ntmps60
  go_wp2
  go_ret
  exact ⟨rfl, rfl⟩
set_option maxHeartbeats 400000 in
theorem mwrite_high (i : Nat) (b : ByteArray) (h : InvR w B R m g fu size last now wl hl lv nv wv hv) (hi : now.length ≤ i) : Calls Try.prog 60 #[.pointer (some ⟨m, 0, none⟩), .int .i64 (i : Int), .string b] w fun e w' => e = .returned (.int .i64 1) ∧ w = w' := by
  have c2 := h.c2
  obtain ⟨a, cap, rfl⟩ := own_shape h.on
  clear h
  have e1 : decide ((i : Int) < 0) = false := by simp
  have e2 : decide ((now.length : Int) ≤ (i : Int)) = true := by simpa using hi
  have e3 : decide (now.length ≤ i) = true := by simpa using hi
  go_enter Try.func60, Try.ntmps60
  go_wp2
  go_ret
  exact ⟨rfl, rfl⟩
set_option maxHeartbeats 400000 in
theorem mwrite_size (i : Nat) (b : ByteArray) (h : InvR w B R m g fu size last now wl hl lv nv wv hv) (hi : i < now.length) (hb : b.size ≠ size) : Calls Try.prog 60 #[.pointer (some ⟨m, 0, none⟩), .int .i64 (i : Int), .string b] w fun e w' => e = .returned (.int .i64 1) ∧ w = w' := by
  have c0 := h.c0
  have c2 := h.c2
  obtain ⟨a, cap, rfl⟩ := own_shape h.on
  clear h
  have e1 : decide ((i : Int) < 0) = false := by simp
  have e2 : decide ((now.length : Int) ≤ (i : Int)) = false := by simpa using hi
  have e3 : decide (now.length ≤ i) = false := by simpa using hi
  have e4 : ((b.size : Int) != (size : Int)) = true := by rw [bne_iff_ne]; omega
  go_enter Try.func60, Try.ntmps60
  go_wp2
  go_ret
  exact ⟨rfl, rfl⟩
set_option maxHeartbeats 400000 in
theorem mwrite_halt (i : Nat) (b : ByteArray) (h : InvR w B R m g fu size last now wl hl lv nv wv hv) (hi : i < now.length) (hb : b.size = size) (ho : fu.ok = false) : Calls Try.prog 60 #[.pointer (some ⟨m, 0, none⟩), .int .i64 (i : Int), .string b] w fun e w' => e = .returned (.int .i64 2) ∧ InvR w' B R m g fu.spent size last now wl hl lv nv wv hv ∧ Kept R w w' := by
  have c0 := h.c0
  have c2 := h.c2
  have c5 := h.c5
  have HI := Lib.hid h
  obtain ⟨a, cap, rfl⟩ := own_shape h.on
  clear h
  have e1 : decide ((i : Int) < 0) = false := by simp
  have e2 : decide ((now.length : Int) ≤ (i : Int)) = false := by simpa using hi
  have e3 : decide (now.length ≤ i) = false := by simpa using hi
  have e4 : ((b.size : Int) != (size : Int)) = false := by simp [hb]
  clear hb
  go_enter Try.func60, Try.ntmps60
  go_wp2_with fail
  refine (mspend_nay HI.out.hf ho).mono ?_
  rintro e w1 ⟨rfl, hz, hon⟩
  have HI1 := Lib.hid (HI.out.fuse hz hon)
  have HK1 := Lib.hid ((Kept.refl R w).only hon fun _ => HI.out.rg)
  clear hz hon c0 c2 c5
  go_wp2
  go_ret
  exact ⟨rfl, HI1.out, HK1.out⟩

set_option maxHeartbeats 400000 in
theorem mflush_halt (h : InvR w B R m g fu size last now wl hl lv nv wv hv) (ho : fu.ok = false) : Calls Try.prog 38 #[.pointer (some ⟨m, 0, none⟩)] w fun e w' => e = .returned (.int .i64 2) ∧ InvR w' B R m g fu.spent size last now wl hl lv nv wv hv ∧ Kept R w w' := by
  have c5 := h.c5
  have HI := Lib.hid h
  clear h
  go_enter Try.func38, Try.ntmps38
  go_wp2_with fail
  refine (mspend_nay HI.out.hf ho).mono ?_
  rintro e w1 ⟨rfl, hz, hon⟩
  have HI1 := Lib.hid (HI.out.fuse hz hon)
  have HK1 := Lib.hid ((Kept.refl R w).only hon fun _ => HI.out.rg)
  clear hz hon c5
  go_wp2
  go_ret
  exact ⟨rfl, HI1.out, HK1.out⟩
set_option maxHeartbeats 1000000 in
theorem mflush_ok (h : InvR w B R m g fu size last now wl hl lv nv wv hv) (hu : fu.Good) (hc : fu.count < 1000000) (ho : fu.ok = true) : Calls Try.prog 38 #[.pointer (some ⟨m, 0, none⟩)] w fun e w' => e = .returned (.int .i64 0) ∧ InvR w' B R m g fu.spent size now now [] [] nv nv (.slice none 0 0) (.slice none 0 0) ∧ Kept R w w' := by
  have c5 := h.c5
  have HI := Lib.hid h
  clear h
  go_enter Try.func38, Try.ntmps38
  go_wp2_with fail
  refine (mspend_yes HI.out.hf hu hc ho).mono ?_
  rintro e w1 ⟨rfl, hz, hon⟩
  have HI1 := Lib.hid (HI.out.fuse hz hon)
  have HK1 := Lib.hid ((Kept.refl R w).only hon fun _ => HI.out.rg)
  clear hz hon c5
  have c1 := HI1.out.c1
  have c2 := HI1.out.c2
  have c3 := HI1.out.c3
  have c4 := HI1.out.c4
  have f1 := HI1.out.fr 1
  have f3 := HI1.out.fr 3
  have f4 := HI1.out.fr 4
  obtain ⟨na, ncap, hnv⟩ := own_shape HI1.out.on
  rw [hnv] at c2
  obtain ⟨la, lcap, hlv⟩ := own_shape HI1.out.ol
  obtain ⟨wa, wcap, hwv⟩ := own_shape HI1.out.ow
  obtain ⟨ha, hcap, hhv⟩ := own_shape HI1.out.oh
  rw [hlv] at c1
  rw [hwv] at c3
  rw [hhv] at c4
  have HNV := Lib.hid hnv
  clear hnv hlv hwv hhv
  go_wp2
  go_ret
  refine ⟨rfl, ?_, ((HK1.out.setCell (fun _ => HI.out.rm) _).setCell (fun _ => HI.out.rm) _).setCell (fun _ => HI.out.rm) _⟩
  rw [← HNV.out]
  exact ((HI1.out.set1 nv now HI1.out.on HI1.out.rn).set3 (.slice none 0 0) [] (World.ownsRow_nil _ _ _ _) (fun k hk => by cases hk)).set4 (.slice none 0 0) [] (World.ownsRow_nil _ _ _ _) (fun k hk => by cases hk)
theorem InvR.both3 (h : InvR w B R m g fu size last now wl hl lv nv wv hv) : w.cell? ⟨m, 3, none⟩ = some wv ∧ w.frozen? ⟨m, 3, none⟩ = false := ⟨h.c3, h.fr 3⟩
theorem lies_ge {W : World} {g n c : Nat} {H : Nat} (h : (Value.slice (some ⟨W.heap.size, 0, none⟩) n c).ownBlock = some g ∨ g = H) (hH : W.heap.size ≤ H := by first | (simp; done) | (simp; omega)) : W.heap.size ≤ g := by
  rcases h with h | h
  · obtain rfl : W.heap.size = g := by simpa [Value.ownBlock] using h
    exact Nat.le_refl _
  · omega
theorem lies_ge2 {g g' n c H : Nat} (h : (Value.slice (some ⟨g, 0, none⟩) n c).ownBlock = some g' ∨ g' = H) (hH : g ≤ H) : g ≤ g' := by
  rcases h with h | h
  · obtain rfl : g = g' := by simpa [Value.ownBlock] using h
    exact Nat.le_refl _
  · omega
theorem InvR.both4 (h : InvR w B R m g fu size last now wl hl lv nv wv hv) : w.cell? ⟨m, 4, none⟩ = some hv ∧ w.frozen? ⟨m, 4, none⟩ = false := ⟨h.c4, h.fr 4⟩

set_option maxHeartbeats 4000000 in
theorem mwrite_first (i : Nat) (b : ByteArray) (h : InvR w B R m g fu size last now [] [] lv nv (.slice none 0 0) (.slice none 0 0)) (hi : i < now.length) (hn : now.length ≤ 1024) (hb : b.size = size) (hu : fu.Good) (hc : fu.count < 1000000) (ho : fu.ok = true) (hBw : B ≤ w.heap.size) :
    Calls Try.prog 60 #[.pointer (some ⟨m, 0, none⟩), .int .i64 (i : Int), .string b] w fun e w' => e = .returned (.int .i64 0) ∧ ∃ nv' wv' hv', InvR w' B (grow R w w') m g fu.spent size last (now.set i b) [i] [b] lv nv' wv' hv' ∧ Kept R w w' := by
  obtain ⟨i3, hi3, hz30, hz31, hz32⟩ := info_parts Tinfo3
  obtain ⟨i9, hi9, hz90, hz91, hz92⟩ := info_parts Tinfo9
  have c0 := h.c0
  have c2 := h.c2
  have c5 := h.c5
  have HI := Lib.hid h
  obtain ⟨na, ncap, hnv⟩ := own_shape h.on
  rw [hnv] at c2
  have HNV := Lib.hid hnv
  clear h hnv
  have e1 : decide ((i : Int) < 0) = false := by simp
  have e2 : decide ((now.length : Int) ≤ (i : Int)) = false := by simpa using hi
  have e3 : decide (now.length ≤ i) = false := by simpa using hi
  have e4 : ((b.size : Int) != (size : Int)) = false := by simp [hb]
  clear hb
  go_enter Try.func60, Try.ntmps60
  go_wp2_with fail
  refine (mspend_yes HI.out.hf hu hc ho).mono ?_
  rintro e w1 ⟨rfl, hz, hon⟩
  have HI1 := Lib.hid (HI.out.fuse hz hon)
  have HK1 := Lib.hid ((Kept.refl R w).only hon fun _ => HI.out.rg)
  have HS1 := Lib.hid hon.size
  clear hz hon c0 c2 c5
  have c2 := HI1.out.c2
  rw [HNV.out] at c2
  go_wp2_with fail
  rw [← HNV.out]
  refine (set_any i b HI1.out.on hi hn (by rw [HS1.out]; exact hBw)).mono ?_
  rintro e w2 ⟨v2, rfl, hown2, hblk2, hbl2⟩
  have HI2 := Lib.hid (HI1.out.under hbl2)
  have c2' := HI2.out.c2
  rw [HNV.out] at c2'
  have f2 := HI2.out.fr 2
  obtain ⟨W1, hW1⟩ : ∃ W1, W1 = w2.setCell ⟨m, 2, none⟩ v2 := ⟨_, rfl⟩
  have HR2 : Hid (∀ k, grow R w w2 k → B ≤ k ∧ k < w2.heap.size) := Lib.hid (by
    rintro k (hk | ⟨h1, h2⟩)
    · exact HI2.out.lt k hk
    · exact ⟨by omega, h2⟩)
  have HIW1 : Hid (InvR W1 B (grow R w w2) m g fu.spent size last (now.set i b) [] [] lv v2 (.slice none 0 0) (.slice none 0 0)) := by
    rw [hW1]
    refine Lib.hid ((HI2.out.mono (fun k hk => .inl hk) HR2.out).set2 v2 (now.set i b) hown2 fun k hk => .inr ?_)
    have := hblk2 k hk
    rw [HS1.out] at this
    exact this
  have HKW1 : Hid (Kept R w W1) := by
    rw [hW1]
    exact Lib.hid ((HK1.out.same (Kept.ofBelow hbl2)).setCell (fun _ => HI.out.rm) _)
  have HSW : Hid (W1.heap.size = w2.heap.size) := by rw [hW1]; exact Lib.hid (by simp)
  have HSB : Hid (B ≤ W1.heap.size) := Lib.hid (Nat.le_trans hBw HKW1.out.size)
  obtain ⟨va, vcap, hv2⟩ := own_shape hown2
  rw [List.length_set] at hv2
  have HV2 := Lib.hid hv2
  rw [hv2] at hW1 ⊢
  clear hown2 hblk2 hbl2 hv2
  go_upto_region 6 with (fail)
  rw [← hW1]
  clear hW1 c2 c2' f2
  have HIA6 := Lib.hid (HIW1.out.alloc (.cells #[] 3))
  have c63 := HIA6.out.c3
  go_upto_region 7 with (first | (at_builtin; refine wpList_append_own_none rfl (.tmp 44) (.tmp 48) 64 rfl B 3 i3 1 Try.underlying64 hi3 (.slice (some ⟨W1.heap.size, 0, none⟩) 0 0) 0 [] rfl (World.ownsRow_made W1 #[] 0 HSB.out (Nat.zero_le _) rfl) rfl ?_) | (at_builtin; go_must (refine wpList_append_lies _ rfl (.tmp 49) (.tmp 51) 64 rfl B 3 i3 (.int .i64 0) 1 8 Try.underlying64 hi3 hz30 hz31 hz32 rfl (by decide) (.slice (some ⟨W1.heap.size, 0, none⟩) 0 0) 0 [] rfl ((World.ownsRow_made W1 #[] 0 HSB.out (Nat.zero_le _) rfl).alloc _) ⟨W1.heap.size + 1, 0, none⟩ 1 1 [.int .i64 (i : Int)] rfl rfl (cell_one_at _ _ _ _ (by simp)) (by simp [Value.oneCell']) (by decide) (by decide) (by decide) (by have := HSB.out; simp; omega) _ rfl ?_); intro g6 cap6 w6 hown6 hgr6 hor6 hlt6; have HIG6 := Lib.hid ((HIA6.out.alloc _).grown hgr6 (fun k hk hR => by obtain rfl : W1.heap.size = k := (by simpa [Value.ownBlock] using hk); have := (HIW1.out.lt _ hR).2; omega)); obtain ⟨q63, q64⟩ := HIG6.out.both3))
  have hsz6 : W1.heap.size ≤ w6.heap.size := by have h1 := hgr6.size; simp at h1; omega
  have hge6 : W1.heap.size ≤ g6 := lies_ge hor6 (by first | (simp; done) | (simp; omega))
  have hR6 : ∀ k, grow R w w6 k → B ≤ k ∧ k < w6.heap.size := by
    rintro k (hk | ⟨h1, h2⟩)
    · exact ⟨(HI.out.lt k hk).1, Nat.lt_of_lt_of_le (HI.out.lt k hk).2 (Nat.le_trans HKW1.out.size hsz6)⟩
    · exact ⟨by omega, h2⟩
  obtain ⟨W6, hW6⟩ : ∃ X, X = w6.setCell ⟨m, 3, none⟩ (.slice (some ⟨g6, 0, none⟩) 1 cap6) := ⟨_, rfl⟩
  have HIW6 : Hid (InvR W6 B (grow R w w6) m g fu.spent size last (now.set i b) [i] [] lv v2 (.slice (some ⟨g6, 0, none⟩) 1 cap6) (.slice none 0 0)) := by
    rw [hW6]
    refine Lib.hid ((HIG6.out.mono (fun k hk => hk.imp id fun h => ⟨h.1, Nat.lt_of_lt_of_le h.2 (Nat.le_trans (Nat.le_of_eq HSW.out.symm) hsz6)⟩) hR6).set3 _ [i] ?_ fun k hk => .inr ?_)
    · exact hown6
    · obtain rfl : g6 = k := by simpa [Value.ownBlock] using hk
      exact ⟨Nat.le_trans HKW1.out.size hge6, hlt6⟩
  have HKW6 : Hid (Kept R w W6) := by
    rw [hW6]
    exact Lib.hid ((((HKW1.out.alloc _).alloc _).grown hgr6 (fun k hk hlt => by obtain rfl : W1.heap.size = k := (by simpa [Value.ownBlock] using hk); have := HKW1.out.size; omega)).setCell (fun _ => HI.out.rm) _)
  have HSW7 : Hid (W6.heap.size = w6.heap.size) := by rw [hW6]; exact Lib.hid (by simp)
  have HSB7 : Hid (B ≤ W6.heap.size) := Lib.hid (Nat.le_trans hBw HKW6.out.size)
  clear hown6 hgr6 hor6 hlt6 hsz6 hge6 hR6 q63 q64 c63 HIA6 HIG6 
  go_upto_region 7 with (fail)
  rw [← hW6]
  clear hW6
  have HIA7 := Lib.hid (HIW6.out.alloc (.cells #[] 9))
  have c73 := HIA7.out.c4
  go_wp2_with (first | (at_builtin; refine wpList_append_own_none rfl (.tmp 56) (.tmp 60) 36 rfl B 9 i9 1 Try.underlying36 hi9 (.slice (some ⟨W6.heap.size, 0, none⟩) 0 0) 0 [] rfl (World.ownsRow_made W6 #[] 0 HSB7.out (Nat.zero_le _) rfl) rfl ?_) | (at_builtin; go_must (refine wpList_append_lies _ rfl (.tmp 61) (.tmp 63) 36 rfl B 9 i9 (.string ⟨#[]⟩) 1 16 Try.underlying36 hi9 hz90 hz91 hz92 rfl (by decide) (.slice (some ⟨W6.heap.size, 0, none⟩) 0 0) 0 [] rfl ((World.ownsRow_made W6 #[] 0 HSB7.out (Nat.zero_le _) rfl).alloc _) ⟨W6.heap.size + 1, 0, none⟩ 1 1 [.string b] rfl rfl (cell_one_at _ _ _ _ (by simp)) (by simp [Value.oneCell']) (by decide) (by decide) (by decide) (by have := HSB7.out; simp; omega) _ rfl ?_); intro g7 cap7 w7 hown7 hgr7 hor7 hlt7; have HIG7 := Lib.hid ((HIA7.out.alloc _).grown hgr7 (fun k hk hR => by obtain rfl : W6.heap.size = k := (by simpa [Value.ownBlock] using hk); have := (HIW6.out.lt _ hR).2; omega)); obtain ⟨q73, q74⟩ := HIG7.out.both4))
  go_ret
  have hsz7 : W6.heap.size ≤ w7.heap.size := by have h1 := hgr7.size; simp at h1; omega
  have hge7 : W6.heap.size ≤ g7 := lies_ge hor7 (by first | (simp; done) | (simp; omega))
  have hR7 : ∀ k, grow R w w7 k → B ≤ k ∧ k < w7.heap.size := by
    rintro k (hk | ⟨h1, h2⟩)
    · exact ⟨(HI.out.lt k hk).1, Nat.lt_of_lt_of_le (HI.out.lt k hk).2 (Nat.le_trans HKW6.out.size hsz7)⟩
    · exact ⟨by omega, h2⟩
  obtain ⟨W7, hW7⟩ : ∃ X, X = w7.setCell ⟨m, 4, none⟩ (.slice (some ⟨g7, 0, none⟩) 1 cap7) := ⟨_, rfl⟩
  have HIW7 : Hid (InvR W7 B (grow R w w7) m g fu.spent size last (now.set i b) [i] [b] lv v2 (.slice (some ⟨g6, 0, none⟩) 1 cap6) (.slice (some ⟨g7, 0, none⟩) 1 cap7)) := by
    rw [hW7]
    refine Lib.hid ((HIG7.out.mono (fun k hk => hk.imp id fun h => ⟨h.1, Nat.lt_of_lt_of_le h.2 (Nat.le_trans (Nat.le_of_eq HSW7.out.symm) hsz7)⟩) hR7).set4 _ [b] ?_ fun k hk => .inr ?_)
    · exact hown7
    · obtain rfl : g7 = k := by simpa [Value.ownBlock] using hk
      exact ⟨Nat.le_trans HKW6.out.size hge7, hlt7⟩
  have HKW7 : Hid (Kept R w W7) := by
    rw [hW7]
    exact Lib.hid ((((HKW6.out.alloc _).alloc _).grown hgr7 (fun k hk hlt => by obtain rfl : W6.heap.size = k := (by simpa [Value.ownBlock] using hk); have := HKW6.out.size; omega)).setCell (fun _ => HI.out.rm) _)
  have h := HIW7.out
  have hk7 := HKW7.out
  rw [hW7] at h hk7
  refine ⟨rfl, v2, .slice (some ⟨g6, 0, none⟩) 1 cap6, .slice (some ⟨g7, 0, none⟩) 1 cap7, ?_, hk7⟩
  refine h.mono (fun k hk => hk.imp id fun h => ⟨h.1, by simpa [World.setCell] using h.2⟩) ?_
  rintro k (hk | ⟨h1, h2⟩)
  · exact h.lt k (.inl hk)
  · exact ⟨by omega, h2⟩

set_option maxHeartbeats 4000000 in
theorem mwrite_more (i : Nat) (b : ByteArray) (h : InvR w B R m g fu size last now wl hl lv nv wv hv) (hpos : 0 < wl.length) (hwh : hl.length = wl.length) (hln : wl.length < 1000000) (hi : i < now.length) (hn : now.length ≤ 1024) (hb : b.size = size) (hu : fu.Good) (hc : fu.count < 1000000) (ho : fu.ok = true) (hBw : B ≤ w.heap.size) :
    Calls Try.prog 60 #[.pointer (some ⟨m, 0, none⟩), .int .i64 (i : Int), .string b] w fun e w' => e = .returned (.int .i64 0) ∧ ∃ nv' wv' hv', InvR w' B (grow R w w') m g fu.spent size last (now.set i b) (wl ++ [i]) (hl ++ [b]) lv nv' wv' hv' ∧ Kept R w w' := by
  obtain ⟨i3, hi3, hz30, hz31, hz32⟩ := info_parts Tinfo3
  obtain ⟨i9, hi9, hz90, hz91, hz92⟩ := info_parts Tinfo9
  have c0 := h.c0
  have c2 := h.c2
  have c5 := h.c5
  have HI := Lib.hid h
  have HPOS := Lib.hid hpos
  have HLN := Lib.hid hln
  have HWH := Lib.hid hwh
  clear hpos hln hwh
  obtain ⟨na, ncap, hnv⟩ := own_shape h.on
  rw [hnv] at c2
  have HNV := Lib.hid hnv
  clear h hnv
  have e1 : decide ((i : Int) < 0) = false := by simp
  have e2 : decide ((now.length : Int) ≤ (i : Int)) = false := by simpa using hi
  have e3 : decide (now.length ≤ i) = false := by simpa using hi
  have e4 : ((b.size : Int) != (size : Int)) = false := by simp [hb]
  clear hb
  go_enter Try.func60, Try.ntmps60
  go_wp2_with fail
  refine (mspend_yes HI.out.hf hu hc ho).mono ?_
  rintro e w1 ⟨rfl, hz, hon⟩
  have HI1 := Lib.hid (HI.out.fuse hz hon)
  have HK1 := Lib.hid ((Kept.refl R w).only hon fun _ => HI.out.rg)
  have HS1 := Lib.hid hon.size
  clear hz hon c0 c2 c5
  have c2 := HI1.out.c2
  rw [HNV.out] at c2
  go_wp2_with fail
  rw [← HNV.out]
  refine (set_any i b HI1.out.on hi hn (by rw [HS1.out]; exact hBw)).mono ?_
  rintro e w2 ⟨v2, rfl, hown2, hblk2, hbl2⟩
  have HI2 := Lib.hid (HI1.out.under hbl2)
  have c2' := HI2.out.c2
  rw [HNV.out] at c2'
  have f2 := HI2.out.fr 2
  obtain ⟨W1, hW1⟩ : ∃ W1, W1 = w2.setCell ⟨m, 2, none⟩ v2 := ⟨_, rfl⟩
  have HR2 : Hid (∀ k, grow R w w2 k → B ≤ k ∧ k < w2.heap.size) := Lib.hid (by
    rintro k (hk | ⟨h1, h2⟩)
    · exact HI2.out.lt k hk
    · exact ⟨by omega, h2⟩)
  have HIW1 : Hid (InvR W1 B (grow R w w2) m g fu.spent size last (now.set i b) wl hl lv v2 wv hv) := by
    rw [hW1]
    refine Lib.hid ((HI2.out.mono (fun k hk => .inl hk) HR2.out).set2 v2 (now.set i b) hown2 fun k hk => .inr ?_)
    have := hblk2 k hk
    rw [HS1.out] at this
    exact this
  have HKW1 : Hid (Kept R w W1) := by
    rw [hW1]
    exact Lib.hid ((HK1.out.same (Kept.ofBelow hbl2)).setCell (fun _ => HI.out.rm) _)
  have HSW : Hid (W1.heap.size = w2.heap.size) := by rw [hW1]; exact Lib.hid (by simp)
  have HSB : Hid (B ≤ W1.heap.size) := Lib.hid (Nat.le_trans hBw HKW1.out.size)
  obtain ⟨va, vcap, hv2⟩ := own_shape hown2
  rw [List.length_set] at hv2
  have HV2 := Lib.hid hv2
  rw [hv2] at hW1 ⊢
  clear hown2 hblk2 hbl2 hv2
  go_upto_region 6 with (fail)
  rw [← hW1]
  clear hW1 c2 c2' f2
  have HIA6 := Lib.hid (HIW1.out.alloc (.cells #[] 3))
  have c63 := HIA6.out.c3
  obtain ⟨k6, kc6, hkv6⟩ := own_form HIW1.out.ow HPOS.out
  rw [hkv6] at c63
  have HOW6 : Hid (W1.ownsRow B 3 1 (.slice (some ⟨k6, 0, none⟩) wl.length kc6) wl.length (ints wl)) := Lib.hid (by rw [← hkv6]; exact HIW1.out.ow)
  have HKV6 := Lib.hid hkv6
  clear hkv6
  go_upto_region 7 with (first | (at_builtin; refine wpList_append_lies _ rfl (.tmp 44) (.tmp 48) 64 rfl B 3 i3 (.int .i64 0) 1 8 Try.underlying64 hi3 hz30 hz31 hz32 rfl (by decide) (.slice (some ⟨W1.heap.size, 0, none⟩) 0 0) 0 [] rfl (World.ownsRow_made W1 #[] 0 HSB.out (Nat.zero_le _) rfl) ⟨k6, 0, none⟩ wl.length kc6 (ints wl) rfl (by rw [ints_len, Nat.mul_one]) (own_src (HOW6.out.alloc _)) (ints_one _) HPOS.out (by have := HLN.out; have := HWH.out; unfold maxLen; omega) (by have := HLN.out; have := HWH.out; omega) (by have := HSB.out; simp; omega) _ rfl ?_; intro g6a cap6a w6a hown6a hgr6a hor6a hlt6a; rw [Nat.zero_add] at hown6a ⊢; rw [List.nil_append] at hown6a) | (at_builtin; go_must (refine wpList_append_lies _ rfl (.tmp 49) (.tmp 51) 64 rfl B 3 i3 (.int .i64 0) 1 8 Try.underlying64 hi3 hz30 hz31 hz32 rfl (by decide) (.slice (some ⟨g6a, 0, none⟩) wl.length cap6a) wl.length (ints wl) rfl (hown6a.alloc _) ⟨w6a.heap.size, 0, none⟩ 1 1 [.int .i64 (i : Int)] rfl rfl (cell_one_new _ _ _) (by simp [Value.oneCell']) (by decide) (by have := HLN.out; have := HWH.out; unfold maxLen; omega) (by have := HLN.out; have := HWH.out; omega) (by have := hgr6a.size; have := HSB.out; simp at *; omega) _ rfl ?_); intro g6 cap6 w6 hown6 hgr6 hor6 hlt6; have HIG6 := Lib.hid (((HIA6.out.grown hgr6a (fun k hk hR => by obtain rfl : W1.heap.size = k := (by simpa [Value.ownBlock] using hk); have := (HIW1.out.lt _ hR).2; omega)).alloc _).grown hgr6 (fun k hk hR => by obtain rfl : g6a = k := (by simpa [Value.ownBlock] using hk); have h2 := (HIW1.out.lt _ hR).2; have h3 := lies_ge hor6a; omega)); obtain ⟨q63, q64⟩ := HIG6.out.both3; rw [HKV6.out] at q63))
  have hsz6 : W1.heap.size ≤ w6.heap.size := by have h1 := hgr6.size; have h2 := hgr6a.size; simp at h1 h2; omega
  have hge6 : W1.heap.size ≤ g6 := Nat.le_trans (lies_ge hor6a) (lies_ge2 hor6 (by have := hlt6a; simp; omega))
  have hR6 : ∀ k, grow R w w6 k → B ≤ k ∧ k < w6.heap.size := by
    rintro k (hk | ⟨h1, h2⟩)
    · exact ⟨(HI.out.lt k hk).1, Nat.lt_of_lt_of_le (HI.out.lt k hk).2 (Nat.le_trans HKW1.out.size hsz6)⟩
    · exact ⟨by omega, h2⟩
  obtain ⟨W6, hW6⟩ : ∃ X, X = w6.setCell ⟨m, 3, none⟩ (.slice (some ⟨g6, 0, none⟩) (wl.length + 1) cap6) := ⟨_, rfl⟩
  have HIW6 : Hid (InvR W6 B (grow R w w6) m g fu.spent size last (now.set i b) (wl ++ [i]) hl lv v2 (.slice (some ⟨g6, 0, none⟩) (wl.length + 1) cap6) hv) := by
    rw [hW6]
    refine Lib.hid ((HIG6.out.mono (fun k hk => hk.imp id fun h => ⟨h.1, Nat.lt_of_lt_of_le h.2 (Nat.le_trans (Nat.le_of_eq HSW.out.symm) hsz6)⟩) hR6).set3 _ (wl ++ [i]) ?_ fun k hk => .inr ?_)
    · rw [List.length_append]; have h := hown6; rw [show ints wl ++ [.int .i64 (i : Int)] = ints (wl ++ [i]) by simp [ints]] at h; exact h
    · obtain rfl : g6 = k := by simpa [Value.ownBlock] using hk
      exact ⟨Nat.le_trans HKW1.out.size hge6, hlt6⟩
  have HKW6 : Hid (Kept R w W6) := by
    rw [hW6]
    exact Lib.hid (((((HKW1.out.alloc _).grown hgr6a (fun k hk hlt => by obtain rfl : W1.heap.size = k := (by simpa [Value.ownBlock] using hk); have := HKW1.out.size; omega)).alloc _).grown hgr6 (fun k hk hlt => by obtain rfl : g6a = k := (by simpa [Value.ownBlock] using hk); have h3 := lies_ge hor6a; have := HKW1.out.size; omega)).setCell (fun _ => HI.out.rm) _)
  have HSW7 : Hid (W6.heap.size = w6.heap.size) := by rw [hW6]; exact Lib.hid (by simp)
  have HSB7 : Hid (B ≤ W6.heap.size) := Lib.hid (Nat.le_trans hBw HKW6.out.size)
  clear hown6 hgr6 hor6 hlt6 hsz6 hge6 hR6 q63 q64 c63 HIA6 HIG6 hown6a hgr6a hor6a hlt6a
  go_upto_region 7 with (fail)
  rw [← hW6]
  clear hW6
  have HIA7 := Lib.hid (HIW6.out.alloc (.cells #[] 9))
  have c73 := HIA7.out.c4
  obtain ⟨k7, kc7, hkv7⟩ := own_form HIW6.out.oh (by rw [HWH.out]; exact HPOS.out)
  rw [hkv7] at c73
  have HOW7 : Hid (W6.ownsRow B 9 1 (.slice (some ⟨k7, 0, none⟩) hl.length kc7) hl.length (strs hl)) := Lib.hid (by rw [← hkv7]; exact HIW6.out.oh)
  have HKV7 := Lib.hid hkv7
  clear hkv7
  go_wp2_with (first | (at_builtin; refine wpList_append_lies _ rfl (.tmp 56) (.tmp 60) 36 rfl B 9 i9 (.string ⟨#[]⟩) 1 16 Try.underlying36 hi9 hz90 hz91 hz92 rfl (by decide) (.slice (some ⟨W6.heap.size, 0, none⟩) 0 0) 0 [] rfl (World.ownsRow_made W6 #[] 0 HSB7.out (Nat.zero_le _) rfl) ⟨k7, 0, none⟩ hl.length kc7 (strs hl) rfl (by rw [strs_len, Nat.mul_one]) (own_src (HOW7.out.alloc _)) (strs_one _) (by rw [HWH.out]; exact HPOS.out) (by have := HLN.out; have := HWH.out; unfold maxLen; omega) (by have := HLN.out; have := HWH.out; omega) (by have := HSB7.out; simp; omega) _ rfl ?_; intro g7a cap7a w7a hown7a hgr7a hor7a hlt7a; rw [Nat.zero_add] at hown7a ⊢; rw [List.nil_append] at hown7a) | (at_builtin; go_must (refine wpList_append_lies _ rfl (.tmp 61) (.tmp 63) 36 rfl B 9 i9 (.string ⟨#[]⟩) 1 16 Try.underlying36 hi9 hz90 hz91 hz92 rfl (by decide) (.slice (some ⟨g7a, 0, none⟩) hl.length cap7a) hl.length (strs hl) rfl (hown7a.alloc _) ⟨w7a.heap.size, 0, none⟩ 1 1 [.string b] rfl rfl (cell_one_new _ _ _) (by simp [Value.oneCell']) (by decide) (by have := HLN.out; have := HWH.out; unfold maxLen; omega) (by have := HLN.out; have := HWH.out; omega) (by have := hgr7a.size; have := HSB7.out; simp at *; omega) _ rfl ?_); intro g7 cap7 w7 hown7 hgr7 hor7 hlt7; have HIG7 := Lib.hid (((HIA7.out.grown hgr7a (fun k hk hR => by obtain rfl : W6.heap.size = k := (by simpa [Value.ownBlock] using hk); have := (HIW6.out.lt _ hR).2; omega)).alloc _).grown hgr7 (fun k hk hR => by obtain rfl : g7a = k := (by simpa [Value.ownBlock] using hk); have h2 := (HIW6.out.lt _ hR).2; have h3 := lies_ge hor7a; omega)); obtain ⟨q73, q74⟩ := HIG7.out.both4; rw [HKV7.out] at q73))
  go_ret
  have hsz7 : W6.heap.size ≤ w7.heap.size := by have h1 := hgr7.size; have h2 := hgr7a.size; simp at h1 h2; omega
  have hge7 : W6.heap.size ≤ g7 := Nat.le_trans (lies_ge hor7a) (lies_ge2 hor7 (by have := hlt7a; simp; omega))
  have hR7 : ∀ k, grow R w w7 k → B ≤ k ∧ k < w7.heap.size := by
    rintro k (hk | ⟨h1, h2⟩)
    · exact ⟨(HI.out.lt k hk).1, Nat.lt_of_lt_of_le (HI.out.lt k hk).2 (Nat.le_trans HKW6.out.size hsz7)⟩
    · exact ⟨by omega, h2⟩
  obtain ⟨W7, hW7⟩ : ∃ X, X = w7.setCell ⟨m, 4, none⟩ (.slice (some ⟨g7, 0, none⟩) (hl.length + 1) cap7) := ⟨_, rfl⟩
  have HIW7 : Hid (InvR W7 B (grow R w w7) m g fu.spent size last (now.set i b) (wl ++ [i]) (hl ++ [b]) lv v2 (.slice (some ⟨g6, 0, none⟩) (wl.length + 1) cap6) (.slice (some ⟨g7, 0, none⟩) (hl.length + 1) cap7)) := by
    rw [hW7]
    refine Lib.hid ((HIG7.out.mono (fun k hk => hk.imp id fun h => ⟨h.1, Nat.lt_of_lt_of_le h.2 (Nat.le_trans (Nat.le_of_eq HSW7.out.symm) hsz7)⟩) hR7).set4 _ (hl ++ [b]) ?_ fun k hk => .inr ?_)
    · rw [List.length_append]; have h := hown7; rw [show strs hl ++ [.string b] = strs (hl ++ [b]) by simp [strs]] at h; exact h
    · obtain rfl : g7 = k := by simpa [Value.ownBlock] using hk
      exact ⟨Nat.le_trans HKW6.out.size hge7, hlt7⟩
  have HKW7 : Hid (Kept R w W7) := by
    rw [hW7]
    exact Lib.hid (((((HKW6.out.alloc _).grown hgr7a (fun k hk hlt => by obtain rfl : W6.heap.size = k := (by simpa [Value.ownBlock] using hk); have := HKW6.out.size; omega)).alloc _).grown hgr7 (fun k hk hlt => by obtain rfl : g7a = k := (by simpa [Value.ownBlock] using hk); have h3 := lies_ge hor7a; have := HKW6.out.size; omega)).setCell (fun _ => HI.out.rm) _)
  have h := HIW7.out
  have hk7 := HKW7.out
  rw [hW7] at h hk7
  refine ⟨rfl, v2, .slice (some ⟨g6, 0, none⟩) (wl.length + 1) cap6, .slice (some ⟨g7, 0, none⟩) (hl.length + 1) cap7, ?_, hk7⟩
  refine h.mono (fun k hk => hk.imp id fun h => ⟨h.1, by simpa [World.setCell] using h.2⟩) ?_
  rintro k (hk | ⟨h1, h2⟩)
  · exact h.lt k (.inl hk)
  · exact ⟨by omega, h2⟩
end Go.Proofs.Ytooikkjgcpngdaa
