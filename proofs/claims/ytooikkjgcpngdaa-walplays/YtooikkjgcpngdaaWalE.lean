/-
  The program's own log: lay: a record is written, and flushed.
-/
import Derived.Test.YtooikkjgcpngdaaWalD
import Derived.Test.YtooikkjgcpngdaaWalRefB
namespace Go.Proofs.Ytooikkjgcpngdaa
open Go.RowKit
open Fr (Rec secB valL lenV)

variable {P Q : Nat → Prop} {w w' : World} {B d f v : Nat} {fu : Fu} {s : Dk} {l : Lg}

theorem Dsk.alike {wd : World} (h : Dsk w B P d f s fu) (hd : Alike wd w) : Dsk wd B P d f s fu :=
  h.stays (by rw [hd.2.2.2]; exact Nat.le_refl _) fun k _ => by rw [hd.2.2.2]
theorem WalP.alike {wd : World} (h : WalP w B P d f s fu v l) (hd : Alike wd w) : WalP wd B P d f s fu v l :=
  h.stays (by rw [hd.2.2.2]; exact Nat.le_refl _) fun k _ => by rw [hd.2.2.2]
theorem write_here {wd : World} (hd : Alike wd w) (i : Nat) (b : ByteArray) (h : Dsk w B P d f s fu) (hi : i < s.now.length) (hb : b.size = s.size) (hc : fu.count < 1000000) (hl : s.opn.length < 1000000) (hBw : B ≤ w.heap.size) :
    Calls Try.prog 55 #[.pointer (some ⟨d, 0, none⟩), .int .i64 (i : Int), .string b] wd fun e w' => e = .returned (.int .i64 (if fu.ok then 0 else 2)) ∧ ∃ P', Hid (Dsk w' B P' d f (if fu.ok then s.write i b else s) fu.spent ∧ Kept P w w' ∧ (∀ k, P' k → P k ∨ w.heap.size ≤ k)) := by
  have hD := h.alike hd
  obtain ⟨e1, e2, e3⟩ := wcode_in (fu := fu) hi hb
  refine (write_D i b hD hc hl (by rw [hd.2.2.2]; exact hBw)).mono ?_
  rintro e w' ⟨rfl, P', h1, h2, h3⟩
  rw [e1]
  rw [e2, e3] at h1
  exact ⟨rfl, P', Lib.hid ⟨h1, h2.alike hd, fun k hk => by rw [← hd.2.2.2]; exact h3 k hk⟩⟩
theorem new_not {P2 : Nat → Prop} {n : Nat} (h : ∀ k, P2 k → P k ∨ n ≤ k) (hv : ¬ P v) (hn : v < n) : ¬ P2 v := fun h2 => by
  rcases h v h2 with h | h
  · exact hv h
  · omega
theorem flush_here {wd : World} (h : Dsk w B P d f s fu) (hc : fu.count < 1000000) (hl : s.opn.length < 1000000) (hd : Alike wd w) :
    Calls Try.prog 34 #[.pointer (some ⟨d, 0, none⟩)] wd fun e w' => e = .returned (.int .i64 (fcode fu)) ∧ Hid (Dsk w' B P d f (fstate s fu) fu.spent ∧ Kept P w w') := by
  refine (flush_D (h.alike hd) hc hl).mono ?_
  rintro e w' ⟨rfl, h1, h2⟩
  exact ⟨rfl, Lib.hid ⟨h1, h2.alike hd⟩⟩

set_option maxRecDepth 20000 in
set_option maxHeartbeats 4000000 in
theorem play_half (area gen seq i : Nat) (t : ByteArray) (h : WalP w B P d f s fu v l) (hbk : l.broken = false) (hbig : s.Big) (hgen : gen < 4294967296) (hseq : seq < 1024) (ht : t.size + 14 ≤ s.size) (ha : area ≤ 1) (hi : i = area * s.half + seq) (hil : i < s.now.length) (hc : fu.count < 900000) (hl : s.opn.length < 900000) (hBw : B ≤ w.heap.size) (hok : fu.ok = true) (hok2 : fu.spent.ok = false) :
    Calls Try.prog 36 #[.pointer (some ⟨v, 0, none⟩), .int .i64 (area : Int), .int .i64 (gen : Int), .int .i64 (seq : Int), .string t] w fun e w' => e = .returned (.bool false) ∧
      ∃ P', WalP w' B P' d f (s.write i (secB gen seq t s.size)) fu.spent.spent v { l with broken := true } ∧ (∀ k, P' k → P k ∨ w.heap.size ≤ k) ∧ Kept (fun k => P k ∨ k = v) w w' := by
  have hsz := h.dsk.good.sz
  have hn1 := h.dsk.good.n1
  have c0 := h.log.c0
  obtain ⟨sz, hsz'⟩ : ∃ sz, sz = s.size := ⟨_, rfl⟩
  have hb128 := hbig.size
  have HZ := Lib.hid (size_D h.dsk)
  rw [← hsz'] at hsz hb128 ht HZ
  have HP : Hid (∀ W, Calls Try.prog 53 #[.int .i64 (gen : Int), .int .i64 (seq : Int), .string t, .int .i64 (sz : Int)] W fun e w' => e = .returned (.tuple #[.string (secB gen seq t sz), .int .i64 0]) ∧ Below W.heap.size W w') := Lib.hid (fun W => Fr.put_ok gen seq sz t W (by omega) (by omega) hb128 hsz ht)
  have HBS : Hid ((secB gen seq t sz).size = sz) := Lib.hid (Fr.sec_size gen seq t sz ht)
  obtain ⟨b, hb⟩ : ∃ b, b = secB gen seq t sz := ⟨_, rfl⟩
  rw [← hb] at HP HBS
  have HBZ : Hid (b.size = s.size) := Lib.hid (HBS.out.trans hsz')
  have HIL := Lib.hid hil
  have HI := Lib.hid hi
  have HH := Lib.hid h
  have HA := Lib.hid ha
  have HBK := Lib.hid hbk
  have HOK2 := Lib.hid hok2
  clear hok2
  rw [← hsz', ← hb]
  clear hsz' hb h hbig hi hil hb128 hbk
  go_enter Try.func36, Try.ntmps36
  go_wp2_with fail
  refine HZ.out.mono ?_
  rintro e w' ⟨rfl, rfl⟩
  go_wp2_with fail
  refine (HP.out _).mono ?_
  rintro e w1 ⟨rfl, hb1⟩
  have HH1 := Lib.hid (HH.out.under hb1)
  have HK1 : Hid (Kept (fun k => P k ∨ k = v) w w1) := Lib.hid (Kept.ofBelow hb1)
  have HS1 : Hid (w.heap.size ≤ w1.heap.size) := Lib.hid hb1.size
  have HBW1 : Hid (B ≤ w1.heap.size) := Lib.hid (Nat.le_trans hBw hb1.size)
  have HSE : Hid (∀ wd, Alike wd w1 → Calls Try.prog 56 #[.pointer (some ⟨v, 0, none⟩), .int .i64 (area : Int), .int .i64 (seq : Int)] wd fun e w' => e = .returned (.int .i64 (i : Int)) ∧ wd = w') := Lib.hid (fun wd hd => sector_any area seq i (HH1.out.alike hd) HA.out (by omega) HI.out)
  have HW : Hid (∀ wd, Alike wd w1 → Calls Try.prog 55 #[.pointer (some ⟨d, 0, none⟩), .int .i64 (i : Int), .string b] wd fun e w' => e = .returned (.int .i64 0) ∧ ∃ P', Hid (Dsk w' B P' d f (s.write i b) fu.spent ∧ Kept P w1 w' ∧ (∀ k, P' k → P k ∨ w1.heap.size ≤ k))) := Lib.hid (fun wd hd => by
    have h := write_here hd i b HH1.out.dsk HIL.out HBZ.out (by omega) (by omega) HBW1.out
    rw [hok] at h
    exact h)
  clear hb1 c0
  have c0 := HH1.out.log.c0
  have HC := Lib.hid hc
  have HLN := Lib.hid hl
  clear hok hc hl hBw hn1 hsz hseq ha hgen
  go_wp2_with fail
  first | (go_region_held3 (fun wx => wx.cell? ⟨v, 0, none⟩ = some (.pointer (some ⟨d, 0, none⟩))) (first | exact c0 | exact q0 | exact q3)
    (first | (go_at_call 56; refine (HSE.out _ ?_).mono ?_; (exact ⟨rfl, rfl, rfl, rfl⟩); rintro e w' ⟨rfl, rfl⟩) | (go_at_call 55; refine (HW.out _ ?_).mono ?_; (exact ⟨rfl, rfl, rfl, rfl⟩); rintro e w2 ⟨rfl, P2, H2⟩; have HV2 := Lib.hid (WalP.mk H2.out.1 ((H2.out.2.1.block v HH1.out.log.lt HH1.out.pv).trans HH1.out.log) (new_not H2.out.2.2 HH1.out.pv HH1.out.log.lt) HH1.out.bv); have q0 := HV2.out.log.c0) | (go_at_call 34; refine (flush_here HV2.out.dsk (by have := HC.out; have := fu.spent_count; omega) (by have := HLN.out; simp [Dk.write]; omega) ?_).mono ?_; (exact ⟨rfl, rfl, rfl, rfl⟩); rintro e w3 ⟨he3, H3⟩; rw [show fcode fu.spent = 2 from by unfold fcode; rw [HOK2.out]; rfl] at he3; subst he3; have HV3 := Lib.hid (WalP.mk H3.out.1 ((H3.out.2.block v HV2.out.log.lt HV2.out.pv).trans HV2.out.log) HV2.out.pv HV2.out.bv); have q3 := HV3.out.log.c0))) | fail
  clear c0 q0 q3
  have E3 : fstate (s.write i b) fu.spent = s.write i b := by unfold fstate; rw [HOK2.out]; rfl
  rw [E3] at HV3
  clear E3
  have f4 := HV3.out.log.fr 4
  have c4 := HV3.out.log.c4
  go_wp2
  go_ret
  exact ⟨rfl, P2, ⟨HV3.out.dsk.beside HV3.out.pv 4 _, HV3.out.log.set4 true, HV3.out.pv, HV3.out.bv⟩, fun k hk => (H2.out.2.2 k hk).imp id (Nat.le_trans HS1.out), ((HK1.out.trans H2.out.2.1 (fun k _ h => .inl h)).trans H3.out.2 (fun k hk h => (H2.out.2.2 k h).elim .inl (fun h1 => absurd hk (by have := HS1.out; omega)))).setCell (fun _ => .inr rfl) _⟩

set_option maxRecDepth 20000 in
set_option maxHeartbeats 4000000 in
theorem play_yes (area gen seq i : Nat) (t : ByteArray) (h : WalP w B P d f s fu v l) (hbk : l.broken = false) (hbig : s.Big) (hgen : gen < 4294967296) (hseq : seq < 1024) (ht : t.size + 14 ≤ s.size) (ha : area ≤ 1) (hi : i = area * s.half + seq) (hil : i < s.now.length) (hc : fu.count < 900000) (hl : s.opn.length < 900000) (hBw : B ≤ w.heap.size) (hok : fu.ok = true) (hok2 : fu.spent.ok = true) :
    Calls Try.prog 36 #[.pointer (some ⟨v, 0, none⟩), .int .i64 (area : Int), .int .i64 (gen : Int), .int .i64 (seq : Int), .string t] w fun e w' => e = .returned (.bool true) ∧
      ∃ P', WalP w' B P' d f ((s.write i (secB gen seq t s.size)).flush) fu.spent.spent v { l with broken := l.broken } ∧ (∀ k, P' k → P k ∨ w.heap.size ≤ k) ∧ Kept (fun k => P k ∨ k = v) w w' := by
  have hsz := h.dsk.good.sz
  have hn1 := h.dsk.good.n1
  have c0 := h.log.c0
  obtain ⟨sz, hsz'⟩ : ∃ sz, sz = s.size := ⟨_, rfl⟩
  have hb128 := hbig.size
  have HZ := Lib.hid (size_D h.dsk)
  rw [← hsz'] at hsz hb128 ht HZ
  have HP : Hid (∀ W, Calls Try.prog 53 #[.int .i64 (gen : Int), .int .i64 (seq : Int), .string t, .int .i64 (sz : Int)] W fun e w' => e = .returned (.tuple #[.string (secB gen seq t sz), .int .i64 0]) ∧ Below W.heap.size W w') := Lib.hid (fun W => Fr.put_ok gen seq sz t W (by omega) (by omega) hb128 hsz ht)
  have HBS : Hid ((secB gen seq t sz).size = sz) := Lib.hid (Fr.sec_size gen seq t sz ht)
  obtain ⟨b, hb⟩ : ∃ b, b = secB gen seq t sz := ⟨_, rfl⟩
  rw [← hb] at HP HBS
  have HBZ : Hid (b.size = s.size) := Lib.hid (HBS.out.trans hsz')
  have HIL := Lib.hid hil
  have HI := Lib.hid hi
  have HH := Lib.hid h
  have HA := Lib.hid ha
  have HBK := Lib.hid hbk
  have HOK2 := Lib.hid hok2
  clear hok2
  rw [← hsz', ← hb]
  clear hsz' hb h hbig hi hil hb128 hbk
  go_enter Try.func36, Try.ntmps36
  go_wp2_with fail
  refine HZ.out.mono ?_
  rintro e w' ⟨rfl, rfl⟩
  go_wp2_with fail
  refine (HP.out _).mono ?_
  rintro e w1 ⟨rfl, hb1⟩
  have HH1 := Lib.hid (HH.out.under hb1)
  have HK1 : Hid (Kept (fun k => P k ∨ k = v) w w1) := Lib.hid (Kept.ofBelow hb1)
  have HS1 : Hid (w.heap.size ≤ w1.heap.size) := Lib.hid hb1.size
  have HBW1 : Hid (B ≤ w1.heap.size) := Lib.hid (Nat.le_trans hBw hb1.size)
  have HSE : Hid (∀ wd, Alike wd w1 → Calls Try.prog 56 #[.pointer (some ⟨v, 0, none⟩), .int .i64 (area : Int), .int .i64 (seq : Int)] wd fun e w' => e = .returned (.int .i64 (i : Int)) ∧ wd = w') := Lib.hid (fun wd hd => sector_any area seq i (HH1.out.alike hd) HA.out (by omega) HI.out)
  have HW : Hid (∀ wd, Alike wd w1 → Calls Try.prog 55 #[.pointer (some ⟨d, 0, none⟩), .int .i64 (i : Int), .string b] wd fun e w' => e = .returned (.int .i64 0) ∧ ∃ P', Hid (Dsk w' B P' d f (s.write i b) fu.spent ∧ Kept P w1 w' ∧ (∀ k, P' k → P k ∨ w1.heap.size ≤ k))) := Lib.hid (fun wd hd => by
    have h := write_here hd i b HH1.out.dsk HIL.out HBZ.out (by omega) (by omega) HBW1.out
    rw [hok] at h
    exact h)
  clear hb1 c0
  have c0 := HH1.out.log.c0
  have HC := Lib.hid hc
  have HLN := Lib.hid hl
  clear hok hc hl hBw hn1 hsz hseq ha hgen
  go_wp2_with fail
  first | (go_region_held3 (fun wx => wx.cell? ⟨v, 0, none⟩ = some (.pointer (some ⟨d, 0, none⟩))) (first | exact c0 | exact q0 | exact q3)
    (first | (go_at_call 56; refine (HSE.out _ ?_).mono ?_; (exact ⟨rfl, rfl, rfl, rfl⟩); rintro e w' ⟨rfl, rfl⟩) | (go_at_call 55; refine (HW.out _ ?_).mono ?_; (exact ⟨rfl, rfl, rfl, rfl⟩); rintro e w2 ⟨rfl, P2, H2⟩; have HV2 := Lib.hid (WalP.mk H2.out.1 ((H2.out.2.1.block v HH1.out.log.lt HH1.out.pv).trans HH1.out.log) (new_not H2.out.2.2 HH1.out.pv HH1.out.log.lt) HH1.out.bv); have q0 := HV2.out.log.c0) | (go_at_call 34; refine (flush_here HV2.out.dsk (by have := HC.out; have := fu.spent_count; omega) (by have := HLN.out; simp [Dk.write]; omega) ?_).mono ?_; (exact ⟨rfl, rfl, rfl, rfl⟩); rintro e w3 ⟨he3, H3⟩; rw [show fcode fu.spent = 0 from by unfold fcode; rw [HOK2.out]; rfl] at he3; subst he3; have HV3 := Lib.hid (WalP.mk H3.out.1 ((H3.out.2.block v HV2.out.log.lt HV2.out.pv).trans HV2.out.log) HV2.out.pv HV2.out.bv); have q3 := HV3.out.log.c0))) | fail
  clear c0 q0 q3
  have E3 : fstate (s.write i b) fu.spent = (s.write i b).flush := by unfold fstate; rw [HOK2.out]; rfl
  rw [E3] at HV3
  clear E3
  have c4 := HV3.out.log.c4
  rw [HBK.out] at c4
  go_wp2
  go_ret
  exact ⟨rfl, P2, HV3.out, fun k hk => (H2.out.2.2 k hk).imp id (Nat.le_trans HS1.out), (HK1.out.trans H2.out.2.1 (fun k _ h => .inl h)).trans H3.out.2 (fun k hk h => (H2.out.2.2 k h).elim .inl (fun h1 => absurd hk (by have := HS1.out; omega)))⟩
end Go.Proofs.Ytooikkjgcpngdaa
