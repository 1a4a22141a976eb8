/-
  The document's own log: Open, where a call of the disk fails.
-/
import Derived.Test.YtooikkjgcpngdaaWalRefF
namespace Go.Proofs.Ytooikkjgcpngdaa
open Go.RowKit
open Fr (Rec secB valL lenV)

variable {P Q R V : Nat → Prop} {w w' : World} {B m g v : Nat} {fu : Fu} {s : Dk} {l : Lg} {lv : Value}


set_option maxRecDepth 100000 in
set_option maxHeartbeats 4000000 in
theorem mopen_no (h : DskR w B R m g s fu) (hbig : s.Big) (hop : s.opn.length = 0) (hc : fu.count < 800000) (hBw : B ≤ w.heap.size) (h0 : headG ((s).at 0) = 0) (h1 : headG ((s).at (s).half) = 0) (hlay : layOk (fu) = false) :
    Calls Try.prog 14 #[.pointer (some ⟨m, 0, none⟩)] w (HaltedR w B R m g (layS (s) (fu) 0 (secB 1 0 headT (s).size)) (layF (fu))) := by
  obtain ⟨oa, oc, d3⟩ := h.c3
  rw [hop] at d3
  have HBW := Lib.hid hBw
  have HDA := Lib.hid h
  have HKA : Hid (Kept R w w) := Lib.hid (Kept.refl _ _)
  have hn1 := h.good.n1
  have hb4 := hbig.len
  have HBIG : Hid ((s).Big) := Lib.hid hbig
  obtain ⟨i9, hi9, hz90, hz91, hz92⟩ := info_parts Tinfo9
  obtain ⟨a, ha⟩ : ∃ a, a = headG ((s).at 0) := ⟨_, rfl⟩
  obtain ⟨b, hb⟩ : ∃ b, b = headG ((s).at (s).half) := ⟨_, rfl⟩
  have hal := headG_lt ((s).at 0)
  have hbl := headG_lt ((s).at (s).half)
  have HH0 : Hid (∀ W, DskR W B R m g (s) (fu) → Calls Try.prog 39 #[.pointer (some ⟨m, 0, none⟩), .int .i64 0] W fun e w' => e = .returned (.int .i64 (a : Int)) ∧ Below W.heap.size W w') := Lib.hid (fun W hW => by rw [ha]; exact head_at 0 0 hW (by omega) (by omega))
  have HH1 : Hid (∀ W, DskR W B R m g (s) (fu) → Calls Try.prog 39 #[.pointer (some ⟨m, 0, none⟩), .int .i64 1] W fun e w' => e = .returned (.int .i64 (b : Int)) ∧ Below W.heap.size W w') := Lib.hid (fun W hW => by rw [hb]; exact head_at 1 _ hW (by omega) (by omega))
  rw [← ha] at h0
  rw [← hb] at h1
  subst h0 h1
  obtain ⟨S5, hS5⟩ : ∃ S5, S5 = layS (s) (fu) 0 (secB 1 0 headT (s).size) := ⟨_, rfl⟩
  obtain ⟨F5, hF5⟩ : ∃ F5, F5 = layF (fu) := ⟨_, rfl⟩
  have HLY := Lib.hid hlay
  have HS5E := Lib.hid hS5
  have HF5E := Lib.hid hF5
  have HL : Hid (∀ W Q V v l lv, DskR W B Q m g (s) (fu) → InvV W B V v m l lv → (∀ k, Q k → ¬ V k) → B ≤ W.heap.size → Calls Try.prog 40 #[.pointer (some ⟨v, 0, none⟩), .int .i64 0, .int .i64 1, .int .i64 0, .string headT] W fun e w' => e = .returned (.bool false) ∧ ∃ R', Hid (DskR w' B R' m g S5 F5 ∧ InvV w' B V v m { l with broken := true } lv ∧ (∀ k, R' k → Q k ∨ W.heap.size ≤ k) ∧ Kept (fun k => Q k ∨ V k) W w')) := Lib.hid (fun W Q V v l lv hW hV hdis hB => by
    have hh := lay_here (wd := W) ⟨rfl, rfl, rfl, rfl⟩ 0 1 0 0 headT hW hV hdis HBIG.out (by omega) (by omega) (by rw [headT_size]; have := HBIG.out.size; omega) (by omega) (by simp) (by have := hW.good.n0; omega) (by omega) (by rw [hop]; omega) hB
    rw [HLY.out, ← HS5E.out, ← HF5E.out] at hh
    exact hh)
  rw [← hS5, ← hF5]
  clear h hbig hBw ha hb hS5 hF5 hn1 hb4 hal hbl hlay hop hc
  go_enter Try.func14, Try.ntmps14
  go_wp2_with fail
  have HDB := Lib.hid (HDA.out.alloc (.cells #[.pointer (some ⟨m, 0, none⟩), .int .i64 0, .int .i64 0, .slice none 0 0, .bool false] 52))
  refine (HH0.out _ HDB.out).mono ?_
  rintro e w2 ⟨rfl, hb2⟩
  have HBA : Hid (B ≤ w.heap.size) := Lib.hid (Nat.le_trans HBW.out HKA.out.size)
  have HD2 := Lib.hid (HDB.out.under hb2)
  have HV2 := Lib.hid ((InvV.fresh w m HBA.out).under hb2)
  have HK2 : Hid (Kept R w w2) := Lib.hid ((HKA.out.alloc _).same (Kept.ofBelow hb2))
  obtain ⟨vv, hvv⟩ : ∃ vv, vv = w.heap.size := ⟨_, rfl⟩
  have HSA : Hid (w.heap.size ≤ vv) := Lib.hid (by rw [hvv]; exact HKA.out.size)
  have HNV : Hid (¬ R vv) := Lib.hid (fun hr => by have := (HDA.out.lt _ hr).2; rw [hvv] at this; omega)
  rw [← hvv] at HV2 ⊢
  clear hb2 hvv d3
  go_wp2_with fail
  refine (HH1.out _ HD2.out).mono ?_
  rintro e w3 ⟨rfl, hb3⟩
  have HD3 := Lib.hid (HD2.out.under hb3)
  have HV3 := Lib.hid (HV2.out.under hb3)
  have HK3 : Hid (Kept R w w3) := Lib.hid (HK2.out.same (Kept.ofBelow hb3))
  clear hb3
  have c1 := HV3.out.c1
  have c2 := HV3.out.c2
  have f1 := HV3.out.fr 1
  have f2 := HV3.out.fr 2
  have HV4 := Lib.hid (((HV3.out.put2 0 0 (by rfl)).put2 1 1 (by rfl)))
  have HD4 := Lib.hid (((HD3.out.beside HNV.out 2 (.int .i64 0)).beside HNV.out 2 (.int .i64 1)))
  have HK4 := Lib.hid ((HK3.out.new HSA.out 2 (.int .i64 0)).new HSA.out 2 (.int .i64 1))
  go_wp2_with fail
  obtain ⟨W4, hW4⟩ : ∃ W, W = (w3.setCell ⟨vv, 2, none⟩ (.int .i64 0)).setCell ⟨vv, 2, none⟩ (.int .i64 1) := ⟨_, rfl⟩
  rw [← hW4] at HV4 HD4 HK4 ⊢
  clear hW4 c2 c1 f1 f2
  refine (HL.out W4 R (fun k => k = vv) vv _ _ HD4.out HV4.out (fun k hr hk => HNV.out (by rw [← show k = vv from hk]; exact hr)) (Nat.le_trans HBW.out HK4.out.size)).mono ?_
  rintro e w5 ⟨rfl, R5, H5⟩
  have HR5 : Hid (∀ k, R5 k → R k ∨ w.heap.size ≤ k) := Lib.hid (fun k hk => (H5.out.2.2.1 k hk).imp id (Nat.le_trans HK4.out.size))
  have HK5 : Hid (Kept R w w5) := Lib.hid (HK4.out.trans H5.out.2.2.2 (fun k hk h => h.elim id (fun h => by have := HSA.out; exact absurd hk (by rw [show k = vv from h]; omega))))
  go_wp2
  go_ret2
  exact ⟨rfl, R5, H5.out.1, HR5.out, HK5.out⟩

set_option maxRecDepth 100000 in
set_option maxHeartbeats 4000000 in
theorem mopen_noF (h : DskR w B R m g s fu) (hbig : s.Big) (hop : 0 < s.opn.length) (_hop2 : s.opn.length < 800000) (hok : fu.ok = true) (hc : fu.count < 800000) (hBw : B ≤ w.heap.size) (h0 : headG ((s.flush).at 0) = 0) (h1 : headG ((s.flush).at (s.flush).half) = 0) (hlay : layOk (fu.spent) = false) :
    Calls Try.prog 14 #[.pointer (some ⟨m, 0, none⟩)] w (HaltedR w B R m g (layS (s.flush) (fu.spent) 0 (secB 1 0 headT (s.flush).size)) (layF (fu.spent))) := by
  obtain ⟨oa, oc, d3⟩ := h.c3
  obtain ⟨no, hno⟩ : ∃ no, no = s.opn.length := ⟨_, rfl⟩
  rw [← hno] at d3 hop _hop2
  have HF := Lib.hid (mflush_D h (by omega))
  rw [show fcode fu = 0 from by unfold fcode; rw [hok]; rfl, show fstate s fu = s.flush from by unfold fstate; rw [hok]; rfl] at HF
  have HBW := Lib.hid hBw
  clear hno
  have hn1 := h.good.n1
  have hb4 := hbig.len
  have HBIG : Hid ((s.flush).Big) := Lib.hid (flush_big hbig)
  obtain ⟨i9, hi9, hz90, hz91, hz92⟩ := info_parts Tinfo9
  obtain ⟨a, ha⟩ : ∃ a, a = headG ((s.flush).at 0) := ⟨_, rfl⟩
  obtain ⟨b, hb⟩ : ∃ b, b = headG ((s.flush).at (s.flush).half) := ⟨_, rfl⟩
  have hal := headG_lt ((s.flush).at 0)
  have hbl := headG_lt ((s.flush).at (s.flush).half)
  have HH0 : Hid (∀ W, DskR W B R m g (s.flush) (fu.spent) → Calls Try.prog 39 #[.pointer (some ⟨m, 0, none⟩), .int .i64 0] W fun e w' => e = .returned (.int .i64 (a : Int)) ∧ Below W.heap.size W w') := Lib.hid (fun W hW => by rw [ha]; exact head_at 0 0 hW (by omega) (by omega))
  have HH1 : Hid (∀ W, DskR W B R m g (s.flush) (fu.spent) → Calls Try.prog 39 #[.pointer (some ⟨m, 0, none⟩), .int .i64 1] W fun e w' => e = .returned (.int .i64 (b : Int)) ∧ Below W.heap.size W w') := Lib.hid (fun W hW => by rw [hb]; exact head_at 1 _ hW (by omega) (by omega))
  rw [← ha] at h0
  rw [← hb] at h1
  subst h0 h1
  obtain ⟨S5, hS5⟩ : ∃ S5, S5 = layS (s.flush) (fu.spent) 0 (secB 1 0 headT (s.flush).size) := ⟨_, rfl⟩
  obtain ⟨F5, hF5⟩ : ∃ F5, F5 = layF (fu.spent) := ⟨_, rfl⟩
  have HLY := Lib.hid hlay
  have HS5E := Lib.hid hS5
  have HF5E := Lib.hid hF5
  have HL : Hid (∀ W Q V v l lv, DskR W B Q m g (s.flush) (fu.spent) → InvV W B V v m l lv → (∀ k, Q k → ¬ V k) → B ≤ W.heap.size → Calls Try.prog 40 #[.pointer (some ⟨v, 0, none⟩), .int .i64 0, .int .i64 1, .int .i64 0, .string headT] W fun e w' => e = .returned (.bool false) ∧ ∃ R', Hid (DskR w' B R' m g S5 F5 ∧ InvV w' B V v m { l with broken := true } lv ∧ (∀ k, R' k → Q k ∨ W.heap.size ≤ k) ∧ Kept (fun k => Q k ∨ V k) W w')) := Lib.hid (fun W Q V v l lv hW hV hdis hB => by
    have hh := lay_here (wd := W) ⟨rfl, rfl, rfl, rfl⟩ 0 1 0 0 headT hW hV hdis HBIG.out (by omega) (by omega) (by rw [headT_size]; have := HBIG.out.size; omega) (by omega) (by simp) (by have := hW.good.n0; omega) (by have := fu.spent_count; omega) (by show (0 : Nat) < 900000; omega) hB
    rw [HLY.out, ← HS5E.out, ← HF5E.out] at hh
    exact hh)
  rw [← hS5, ← hF5]
  clear h hbig hBw ha hb hS5 hF5 hn1 hb4 hal hbl hlay _hop2 hok hc
  go_enter Try.func14, Try.ntmps14
  go_wp2_with fail
  refine HF.out.mono ?_
  rintro e wA ⟨rfl, hd, hk⟩
  have HDA := Lib.hid hd
  have HKA := Lib.hid hk
  clear hd hk d3
  go_wp2_with fail
  have HDB := Lib.hid (HDA.out.alloc (.cells #[.pointer (some ⟨m, 0, none⟩), .int .i64 0, .int .i64 0, .slice none 0 0, .bool false] 52))
  refine (HH0.out _ HDB.out).mono ?_
  rintro e w2 ⟨rfl, hb2⟩
  have HBA : Hid (B ≤ wA.heap.size) := Lib.hid (Nat.le_trans HBW.out HKA.out.size)
  have HD2 := Lib.hid (HDB.out.under hb2)
  have HV2 := Lib.hid ((InvV.fresh wA m HBA.out).under hb2)
  have HK2 : Hid (Kept R w w2) := Lib.hid ((HKA.out.alloc _).same (Kept.ofBelow hb2))
  obtain ⟨vv, hvv⟩ : ∃ vv, vv = wA.heap.size := ⟨_, rfl⟩
  have HSA : Hid (w.heap.size ≤ vv) := Lib.hid (by rw [hvv]; exact HKA.out.size)
  have HNV : Hid (¬ R vv) := Lib.hid (fun hr => by have := (HDA.out.lt _ hr).2; rw [hvv] at this; omega)
  rw [← hvv] at HV2 ⊢
  clear hb2 hvv 
  go_wp2_with fail
  refine (HH1.out _ HD2.out).mono ?_
  rintro e w3 ⟨rfl, hb3⟩
  have HD3 := Lib.hid (HD2.out.under hb3)
  have HV3 := Lib.hid (HV2.out.under hb3)
  have HK3 : Hid (Kept R w w3) := Lib.hid (HK2.out.same (Kept.ofBelow hb3))
  clear hb3
  have c1 := HV3.out.c1
  have c2 := HV3.out.c2
  have f1 := HV3.out.fr 1
  have f2 := HV3.out.fr 2
  have HV4 := Lib.hid (((HV3.out.put2 0 0 (by rfl)).put2 1 1 (by rfl)))
  have HD4 := Lib.hid (((HD3.out.beside HNV.out 2 (.int .i64 0)).beside HNV.out 2 (.int .i64 1)))
  have HK4 := Lib.hid ((HK3.out.new HSA.out 2 (.int .i64 0)).new HSA.out 2 (.int .i64 1))
  go_wp2_with fail
  obtain ⟨W4, hW4⟩ : ∃ W, W = (w3.setCell ⟨vv, 2, none⟩ (.int .i64 0)).setCell ⟨vv, 2, none⟩ (.int .i64 1) := ⟨_, rfl⟩
  rw [← hW4] at HV4 HD4 HK4 ⊢
  clear hW4 c2 c1 f1 f2
  refine (HL.out W4 R (fun k => k = vv) vv _ _ HD4.out HV4.out (fun k hr hk => HNV.out (by rw [← show k = vv from hk]; exact hr)) (Nat.le_trans HBW.out HK4.out.size)).mono ?_
  rintro e w5 ⟨rfl, R5, H5⟩
  have HR5 : Hid (∀ k, R5 k → R k ∨ w.heap.size ≤ k) := Lib.hid (fun k hk => (H5.out.2.2.1 k hk).imp id (Nat.le_trans HK4.out.size))
  have HK5 : Hid (Kept R w w5) := Lib.hid (HK4.out.trans H5.out.2.2.2 (fun k hk h => h.elim id (fun h => by have := HSA.out; exact absurd hk (by rw [show k = vv from h]; omega))))
  go_wp2
  go_ret2
  exact ⟨rfl, R5, H5.out.1, HR5.out, HK5.out⟩

set_option maxHeartbeats 1000000 in
theorem mopen_halt (h : DskR w B R m g s fu) (hop : 0 < s.opn.length) (_hop2 : s.opn.length < 800000) (hok : fu.ok = false) (hc : fu.count < 800000) :
    Calls Try.prog 14 #[.pointer (some ⟨m, 0, none⟩)] w (HaltedR w B R m g s fu.spent) := by
  obtain ⟨oa, oc, d3⟩ := h.c3
  obtain ⟨no, hno⟩ : ∃ no, no = s.opn.length := ⟨_, rfl⟩
  rw [← hno] at d3 hop _hop2
  have HF := Lib.hid (mflush_D h (by omega))
  rw [show fcode fu = 2 from by unfold fcode; rw [hok]; rfl, show fstate s fu = s from by unfold fstate; rw [hok]; rfl] at HF
  clear hno h hok hc
  go_enter Try.func14, Try.ntmps14
  go_wp2_with fail
  refine HF.out.mono ?_
  rintro e wA ⟨rfl, hd, hk⟩
  go_wp2
  go_ret2
  exact ⟨rfl, R, hd, fun k hk => .inl hk, hk⟩
end Go.Proofs.Ytooikkjgcpngdaa
