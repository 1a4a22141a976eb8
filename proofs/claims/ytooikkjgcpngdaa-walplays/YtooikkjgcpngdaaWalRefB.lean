/-
  The document's own log in memory; lay: a record is written, and flushed.
-/
import Derived.Test.YtooikkjgcpngdaaWalRef
namespace Go.Proofs.Ytooikkjgcpngdaa
open Go.RowKit
open Fr (Rec secB valL lenV)

variable {P Q R V : Nat → Prop} {w w' : World} {B m g v : Nat} {fu : Fu} {s : Dk} {l : Lg} {lv : Value}

/-- The document's log v, of the disk m. All its blocks are of V. -/
structure InvV (w : World) (B : Nat) (V : Nat → Prop) (v m : Nat) (l : Lg) (lv : Value) : Prop where
  hv : w.heap[v]? = some (.cells #[.pointer (some ⟨m, 0, none⟩), .int .i64 (l.area : Int), .int .i64 (l.gen : Int), lv, .bool l.broken] 52 (0, 0))
  ol : w.ownsRow B 9 1 lv l.list.length (strs l.list)
  pv : V v
  pl : ∀ k, lv.ownBlock = some k → V k
  lt : ∀ k, V k → B ≤ k ∧ k < w.heap.size
  e0 : l.list = [] → lv = .slice none 0 0
theorem InvV.c0 (h : InvV w B V v m l lv) : w.cell? ⟨v, 0, none⟩ = some (.pointer (some ⟨m, 0, none⟩)) := by rw [cell_of_row w v 0 _ _ _ h.hv]; rfl
theorem InvV.c1 (h : InvV w B V v m l lv) : w.cell? ⟨v, 1, none⟩ = some (.int .i64 (l.area : Int)) := by rw [cell_of_row w v 1 _ _ _ h.hv]; rfl
theorem InvV.c2 (h : InvV w B V v m l lv) : w.cell? ⟨v, 2, none⟩ = some (.int .i64 (l.gen : Int)) := by rw [cell_of_row w v 2 _ _ _ h.hv]; rfl
theorem InvV.c3 (h : InvV w B V v m l lv) : w.cell? ⟨v, 3, none⟩ = some lv := by rw [cell_of_row w v 3 _ _ _ h.hv]; rfl
theorem InvV.c4 (h : InvV w B V v m l lv) : w.cell? ⟨v, 4, none⟩ = some (.bool l.broken) := by rw [cell_of_row w v 4 _ _ _ h.hv]; rfl
theorem InvV.fr (h : InvV w B V v m l lv) (i : Nat) : w.frozen? ⟨v, i, none⟩ = false := by
  have := h.hv
  simp [World.frozen?, this]
theorem InvV.stays (h : InvV w B V v m l lv) (hs : w.heap.size ≤ w'.heap.size) (hb : ∀ k, V k → w'.heap[k]? = w.heap[k]?) : InvV w' B V v m l lv :=
  ⟨(hb v h.pv).trans h.hv, own_other h.ol fun k hk => hb k (h.pl k hk), h.pv, h.pl, fun k hk => ⟨(h.lt k hk).1, Nat.lt_of_lt_of_le (h.lt k hk).2 hs⟩, h.e0⟩
theorem InvV.kept (h : InvV w B V v m l lv) (hk : Kept Q w w') (hq : ∀ k, V k → ¬ Q k) : InvV w' B V v m l lv :=
  h.stays hk.size fun k hp => hk.block k (h.lt k hp).2 (hq k hp)
theorem InvV.under (h : InvV w B V v m l lv) (hk : Below w.heap.size w w') : InvV w' B V v m l lv :=
  h.stays hk.size fun k hp => hk.block k (h.lt k hp).2
theorem InvV.alloc (h : InvV w B V v m l lv) (o : Obj) : InvV (w.alloc o) B V v m l lv :=
  h.stays (by simp) fun k hp => Below.heap_alloc w o k (h.lt k hp).2
theorem InvV.drew (h : InvV w B V v m l lv) : InvV w.drew B V v m l lv := h.stays (Nat.le_refl _) fun _ _ => rfl
theorem InvV.drewN (h : InvV w B V v m l lv) (n : Nat) : InvV (w.drewN n) B V v m l lv := h.stays (Nat.le_refl _) fun _ _ => rfl
theorem InvV.mono (h : InvV w B V v m l lv) (hP : ∀ k, V k → Q k) (hQ : ∀ k, Q k → B ≤ k ∧ k < w.heap.size) : InvV w B Q v m l lv :=
  ⟨h.hv, h.ol, hP _ h.pv, fun k hk => hP _ (h.pl k hk), hQ, h.e0⟩
theorem own_set52 {e : TypeId} {n i : Nat} {u x : Value} {xs : List Value} {c : Array Value} (hv : w.heap[v]? = some (.cells c 52 (0, 0))) (h : w.ownsRow B e 1 u n xs) (he : e ≠ 52) : (w.setCell ⟨v, i, none⟩ x).ownsRow B e 1 u n xs :=
  own_other h fun k hk => by
    obtain ⟨cur, hc⟩ := own_type h hk
    exact Below.heap_setCell w ⟨v, i, none⟩ _ k (ne_of_type hc hv he)
theorem InvV.set1 (h : InvV w B V v m l lv) (a : Nat) : InvV (w.setCell ⟨v, 1, none⟩ (.int .i64 (a : Int))) B V v m { l with area := a } lv :=
  ⟨by have := h.hv; simp [World.setCell, Array.getElem?_modify, this], own_set52 h.hv h.ol (by decide), h.pv, h.pl, fun k hk => by simpa [World.setCell] using h.lt k hk, h.e0⟩
theorem InvV.set2 (h : InvV w B V v m l lv) (a : Nat) : InvV (w.setCell ⟨v, 2, none⟩ (.int .i64 (a : Int))) B V v m { l with gen := a } lv :=
  ⟨by have := h.hv; simp [World.setCell, Array.getElem?_modify, this], own_set52 h.hv h.ol (by decide), h.pv, h.pl, fun k hk => by simpa [World.setCell] using h.lt k hk, h.e0⟩
theorem InvV.set3 (h : InvV w B V v m l lv) (u : Value) (xs : List ByteArray) (hu : w.ownsRow B 9 1 u xs.length (strs xs)) (hr : ∀ k, u.ownBlock = some k → V k) (he : xs = [] → u = .slice none 0 0) : InvV (w.setCell ⟨v, 3, none⟩ u) B V v m { l with list := xs } u :=
  ⟨by have := h.hv; simp [World.setCell, Array.getElem?_modify, this], own_set52 h.hv hu (by decide), h.pv, hr, fun k hk => by simpa [World.setCell] using h.lt k hk, he⟩
theorem InvV.set4 (h : InvV w B V v m l lv) (b : Bool) : InvV (w.setCell ⟨v, 4, none⟩ (.bool b)) B V v m { l with broken := b } lv :=
  ⟨by have := h.hv; simp [World.setCell, Array.getElem?_modify, this], own_set52 h.hv h.ol (by decide), h.pv, h.pl, fun k hk => by simpa [World.setCell] using h.lt k hk, h.e0⟩
/-- A store into the log's own block leaves the disk as it is. -/
theorem DskR.beside (h : DskR w B R m g s fu) (hv : ¬ R v) (i : Nat) (u : Value) : DskR (w.setCell ⟨v, i, none⟩ u) B R m g s fu :=
  h.stays (by simp [World.setCell]) fun k hk => Below.heap_setCell w ⟨v, i, none⟩ _ k (fun e => hv (by have h1 : k = v := e; rw [← h1]; exact hk))

/-- The document's log v on its disk m, of fuse g: U are all blocks of both. -/
def WalR (w : World) (B : Nat) (U : Nat → Prop) (m g : Nat) (s : Dk) (fu : Fu) (v : Nat) (l : Lg) : Prop :=
  ∃ R V lv, DskR w B R m g s fu ∧ InvV w B V v m l lv ∧ (∀ k, R k → ¬ V k) ∧ (∀ k, R k → U k) ∧ (∀ k, V k → U k) ∧ (∀ k, U k → B ≤ k ∧ k < w.heap.size)

theorem wcode_in {s : Dk} {fu : Fu} {i : Nat} {b : ByteArray} (hi : i < s.now.length) (hb : b.size = s.size) : wcode s fu (i : Int) b = (if fu.ok then 0 else 2) ∧ wstate s fu (i : Int) b = (if fu.ok then s.write i b else s) ∧ wfuse s fu (i : Int) b = fu.spent := by
  have h := good_in (s := s) hi hb
  refine ⟨by simp [wcode, h], by simp [wstate, h], by simp [wfuse, h]⟩

/-- This world is that one but for draws. -/
abbrev Alike (wd w : World) : Prop := wd.os = w.os ∧ wd.tape = w.tape ∧ wd.output = w.output ∧ wd.heap = w.heap
theorem DskR.alike {wd : World} (h : DskR w B R m g s fu) (hd : Alike wd w) : DskR wd B R m g s fu :=
  h.stays (by rw [hd.2.2.2]; exact Nat.le_refl _) fun k _ => by rw [hd.2.2.2]
theorem InvV.alike {wd : World} (h : InvV w B V v m l lv) (hd : Alike wd w) : InvV wd B V v m l lv :=
  h.stays (by rw [hd.2.2.2]; exact Nat.le_refl _) fun k _ => by rw [hd.2.2.2]
theorem Kept.alike {wd : World} (h : Kept P wd w') (hd : Alike wd w) : Kept P w w' := by
  obtain ⟨d1, d2, d3, d4⟩ := hd
  exact ⟨h.os.trans d1, h.tape.trans d2, h.output.trans d3, by rw [← d4]; exact h.size, fun k hk hp => by rw [← d4] at hk ⊢; exact h.block k hk hp⟩
theorem mwrite_here {wd : World} (hd : Alike wd w) (i : Nat) (b : ByteArray) (h : DskR w B R m g s fu) (hi : i < s.now.length) (hb : b.size = s.size) (hc : fu.count < 1000000) (hl : s.opn.length < 1000000) (hBw : B ≤ w.heap.size) :
    Calls Try.prog 60 #[.pointer (some ⟨m, 0, none⟩), .int .i64 (i : Int), .string b] wd fun e w' => e = .returned (.int .i64 (if fu.ok then 0 else 2)) ∧ ∃ R', Hid (DskR w' B R' m g (if fu.ok then s.write i b else s) fu.spent ∧ Kept R w w' ∧ (∀ k, R' k → R k ∨ w.heap.size ≤ k)) := by
  have hD := h.alike hd
  obtain ⟨e1, e2, e3⟩ := wcode_in (fu := fu) hi hb
  refine (mwrite_D i b hD hc hl (by rw [hd.2.2.2]; exact hBw)).mono ?_
  rintro e w' ⟨rfl, R', h1, h2, h3⟩
  rw [e1]
  rw [e2, e3] at h1
  exact ⟨rfl, R', Lib.hid ⟨h1, h2.alike hd, fun k hk => by rw [← hd.2.2.2]; exact h3 k hk⟩⟩

set_option maxHeartbeats 4000000 in
theorem lay_no (area gen seq i : Nat) (t : ByteArray) (hD : DskR w B R m g s fu) (hV : InvV w B V v m l lv) (hdis : ∀ k, R k → ¬ V k) (hbig : s.Big) (hgen : gen < 4294967296) (hseq : seq < 1024) (ht : t.size + 14 ≤ s.size) (_ha : area ≤ 1) (hi : i = area * s.half + seq) (hil : i < s.now.length) (hc : fu.count < 900000) (hl : s.opn.length < 900000) (hBw : B ≤ w.heap.size) (hok : fu.ok = false) :
    Calls Try.prog 40 #[.pointer (some ⟨v, 0, none⟩), .int .i64 (area : Int), .int .i64 (gen : Int), .int .i64 (seq : Int), .string t] w fun e w' => e = .returned (.bool false) ∧
      ∃ R', DskR w' B R' m g s fu.spent ∧ InvV w' B V v m { l with broken := true } lv ∧ (∀ k, R' k → R k ∨ w.heap.size ≤ k) ∧ Kept (fun k => R k ∨ V k) w w' := by
  have hsz := hD.good.sz
  have hn1 := hD.good.n1
  have c0 := hV.c0
  have d0 := hD.c0
  obtain ⟨av, cap, d2⟩ := hD.c2
  obtain ⟨n, hn⟩ : ∃ n, n = s.now.length := ⟨_, rfl⟩
  rw [← hn] at d2 hil hn1
  obtain ⟨hf, hhf⟩ : ∃ hf, hf = s.half := ⟨_, rfl⟩
  obtain ⟨sz, hsz'⟩ : ∃ sz, sz = s.size := ⟨_, rfl⟩
  have hb128 := hbig.size
  rw [← hsz'] at d0 hsz hb128 ht
  have HP : Hid (∀ W, Calls Try.prog 59 #[.int .i64 (gen : Int), .int .i64 (seq : Int), .string t, .int .i64 (sz : Int)] W fun e w' => e = .returned (.tuple #[.string (secB gen seq t sz), .int .i64 0]) ∧ Below W.heap.size W w') := Lib.hid (fun W => Fr.fput_ok gen seq sz t W (by omega) (by omega) hb128 hsz ht)
  have HBS : Hid ((secB gen seq t sz).size = sz) := Lib.hid (Fr.sec_size gen seq t sz ht)
  obtain ⟨b, hb⟩ : ∃ b, b = secB gen seq t sz := ⟨_, rfl⟩
  rw [← hb] at HP HBS
  obtain ⟨ah, hah⟩ : ∃ ah, ah = area * hf := ⟨_, rfl⟩
  have hie : i = ah + seq := by rw [hi, hah, hhf]
  have eh : IntKind.i64.wrap ((n : Int) / 2) = (hf : Int) := by
    have e : (n : Int) / 2 = (hf : Int) := by rw [hhf, hn]; unfold Dk.half; omega
    rw [e]; exact IntWalk.i64_in _ (by omega)
  have em : IntKind.i64.wrap ((area : Int) * (hf : Int)) = (ah : Int) := by
    have e : (area : Int) * (hf : Int) = (ah : Int) := by rw [hah]; exact (Int.natCast_mul area hf).symm
    rw [e]; exact IntWalk.i64_in _ (by omega)
  have es : (ah : Int) + (seq : Int) = (i : Int) := by omega
  have ew : IntKind.i64.wrap (i : Int) = (i : Int) := IntWalk.i64_in _ (by omega)
  have HIL : Hid (i < s.now.length) := Lib.hid (by omega)
  have HBZ : Hid (b.size = s.size) := Lib.hid (HBS.out.trans hsz')
  have HN := Lib.hid hn
  have HDIS := Lib.hid hdis

  have HD := Lib.hid hD
  have HV := Lib.hid hV
  clear hn hsz' hb hD hV hbig hah hhf hie hi _ha hb128 hdis
  go_enter Try.func40, Try.ntmps40
  go_wp2_with fail
  refine (HP.out _).mono ?_
  rintro e w1 ⟨rfl, hb1⟩
  have HD1 := Lib.hid (HD.out.under hb1)
  have HV1 := Lib.hid (HV.out.under hb1)
  have HK1 : Hid (Kept (fun k => R k ∨ V k) w w1) := Lib.hid (Kept.ofBelow hb1)
  have HS1 : Hid (w.heap.size ≤ w1.heap.size) := Lib.hid hb1.size
  have hBw1 : B ≤ w1.heap.size := Nat.le_trans hBw hb1.size
  have HW : Hid (∀ wd, Alike wd w1 → Calls Try.prog 60 #[.pointer (some ⟨m, 0, none⟩), .int .i64 (i : Int), .string b] wd fun e w' => e = .returned (.int .i64 2) ∧ ∃ R', Hid (DskR w' B R' m g s fu.spent ∧ Kept R w1 w' ∧ (∀ k, R' k → R k ∨ w1.heap.size ≤ k))) := Lib.hid (fun wd hd => by
    have h := mwrite_here hd i b HD1.out HIL.out HBZ.out (by omega) (by omega) hBw1
    rw [hok] at h
    exact h)
  clear hb1 c0 d0 d2
  have c0 := HV1.out.c0
  have d0 := HD1.out.c0
  obtain ⟨av1, cap1, d2⟩ := HD1.out.c2
  rw [← HN.out] at d2
  have HC := Lib.hid hc
  have HLN := Lib.hid hl
  clear hok hc hl
  go_wp2_with fail
  go_region_with (first | (go_at_call 60; go_must (refine (HW.out _ ?_).mono ?_; (exact ⟨rfl, rfl, rfl, rfl⟩)); rintro e w2 ⟨rfl, R2, H2⟩))
  all_goals
    have HV2 := Lib.hid (HV1.out.kept H2.out.2.1 (fun k hv hr => HDIS.out k hr hv))
    clear c0 d0 d2
    have f4 := HV2.out.fr 4
    have c4 := HV2.out.c4
    go_wp2
    go_ret
    refine ⟨rfl, R2, H2.out.1.beside (fun hr => ?_) 4 _, HV2.out.set4 true, fun k hk => ?_, ((HK1.out.trans H2.out.2.1 (fun k _ h => .inl h)).setCell (fun _ => .inr HV2.out.pv) _)⟩
    · rcases H2.out.2.2 v hr with h | h
      · exact HDIS.out v h HV2.out.pv
      · exact absurd (HV1.out.lt v HV2.out.pv).2 (by omega)
    · rcases H2.out.2.2 k hk with h | h
      · exact .inl h
      · exact .inr (Nat.le_trans HS1.out h)

set_option maxHeartbeats 4000000 in
theorem lay_half (area gen seq i : Nat) (t : ByteArray) (hD : DskR w B R m g s fu) (hV : InvV w B V v m l lv) (hdis : ∀ k, R k → ¬ V k) (hbig : s.Big) (hgen : gen < 4294967296) (hseq : seq < 1024) (ht : t.size + 14 ≤ s.size) (_ha : area ≤ 1) (hi : i = area * s.half + seq) (hil : i < s.now.length) (hc : fu.count < 900000) (hl : s.opn.length < 900000) (hBw : B ≤ w.heap.size) (hok : fu.ok = true) (hok2 : fu.spent.ok = false) :
    Calls Try.prog 40 #[.pointer (some ⟨v, 0, none⟩), .int .i64 (area : Int), .int .i64 (gen : Int), .int .i64 (seq : Int), .string t] w fun e w' => e = .returned (.bool false) ∧
      ∃ R', DskR w' B R' m g (s.write i (secB gen seq t s.size)) fu.spent.spent ∧ InvV w' B V v m { l with broken := true } lv ∧ (∀ k, R' k → R k ∨ w.heap.size ≤ k) ∧ Kept (fun k => R k ∨ V k) w w' := by
  have hsz := hD.good.sz
  have hn1 := hD.good.n1
  have c0 := hV.c0
  have d0 := hD.c0
  obtain ⟨av, cap, d2⟩ := hD.c2
  obtain ⟨n, hn⟩ : ∃ n, n = s.now.length := ⟨_, rfl⟩
  rw [← hn] at d2 hil hn1
  obtain ⟨hf, hhf⟩ : ∃ hf, hf = s.half := ⟨_, rfl⟩
  obtain ⟨sz, hsz'⟩ : ∃ sz, sz = s.size := ⟨_, rfl⟩
  have hb128 := hbig.size
  rw [← hsz'] at d0 hsz hb128 ht
  have HP : Hid (∀ W, Calls Try.prog 59 #[.int .i64 (gen : Int), .int .i64 (seq : Int), .string t, .int .i64 (sz : Int)] W fun e w' => e = .returned (.tuple #[.string (secB gen seq t sz), .int .i64 0]) ∧ Below W.heap.size W w') := Lib.hid (fun W => Fr.fput_ok gen seq sz t W (by omega) (by omega) hb128 hsz ht)
  have HBS : Hid ((secB gen seq t sz).size = sz) := Lib.hid (Fr.sec_size gen seq t sz ht)
  obtain ⟨b, hb⟩ : ∃ b, b = secB gen seq t sz := ⟨_, rfl⟩
  rw [← hb] at HP HBS
  obtain ⟨ah, hah⟩ : ∃ ah, ah = area * hf := ⟨_, rfl⟩
  have hie : i = ah + seq := by rw [hi, hah, hhf]
  have eh : IntKind.i64.wrap ((n : Int) / 2) = (hf : Int) := by
    have e : (n : Int) / 2 = (hf : Int) := by rw [hhf, hn]; unfold Dk.half; omega
    rw [e]; exact IntWalk.i64_in _ (by omega)
  have em : IntKind.i64.wrap ((area : Int) * (hf : Int)) = (ah : Int) := by
    have e : (area : Int) * (hf : Int) = (ah : Int) := by rw [hah]; exact (Int.natCast_mul area hf).symm
    rw [e]; exact IntWalk.i64_in _ (by omega)
  have es : (ah : Int) + (seq : Int) = (i : Int) := by omega
  have ew : IntKind.i64.wrap (i : Int) = (i : Int) := IntWalk.i64_in _ (by omega)
  have HIL : Hid (i < s.now.length) := Lib.hid (by omega)
  have HBZ : Hid (b.size = s.size) := Lib.hid (HBS.out.trans hsz')
  have HN := Lib.hid hn
  have HDIS := Lib.hid hdis
  have HOK2 := Lib.hid hok2
  clear hok2
  rw [← hsz', ← hb]
  have HD := Lib.hid hD
  have HV := Lib.hid hV
  clear hn hsz' hb hD hV hbig hah hhf hie hi _ha hb128 hdis
  go_enter Try.func40, Try.ntmps40
  go_wp2_with fail
  refine (HP.out _).mono ?_
  rintro e w1 ⟨rfl, hb1⟩
  have HD1 := Lib.hid (HD.out.under hb1)
  have HV1 := Lib.hid (HV.out.under hb1)
  have HK1 : Hid (Kept (fun k => R k ∨ V k) w w1) := Lib.hid (Kept.ofBelow hb1)
  have HS1 : Hid (w.heap.size ≤ w1.heap.size) := Lib.hid hb1.size
  have hBw1 : B ≤ w1.heap.size := Nat.le_trans hBw hb1.size
  have HW : Hid (∀ wd, Alike wd w1 → Calls Try.prog 60 #[.pointer (some ⟨m, 0, none⟩), .int .i64 (i : Int), .string b] wd fun e w' => e = .returned (.int .i64 0) ∧ ∃ R', Hid (DskR w' B R' m g (s.write i b) fu.spent ∧ Kept R w1 w' ∧ (∀ k, R' k → R k ∨ w1.heap.size ≤ k))) := Lib.hid (fun wd hd => by
    have h := mwrite_here hd i b HD1.out HIL.out HBZ.out (by omega) (by omega) hBw1
    rw [hok] at h
    exact h)
  clear hb1 c0 d0 d2
  have c0 := HV1.out.c0
  have d0 := HD1.out.c0
  obtain ⟨av1, cap1, d2⟩ := HD1.out.c2
  rw [← HN.out] at d2
  have HC := Lib.hid hc
  have HLN := Lib.hid hl
  clear hok hc hl
  go_wp2_with fail
  go_region_with (first | (go_at_call 60; go_must (refine (HW.out _ ?_).mono ?_; (exact ⟨rfl, rfl, rfl, rfl⟩)); rintro e w2 ⟨rfl, R2, H2⟩))
  all_goals
    have HV2 := Lib.hid (HV1.out.kept H2.out.2.1 (fun k hv hr => HDIS.out k hr hv))
    clear c0 d0 d2
    have c0 := HV2.out.c0
    go_wp2_with fail
    refine (mflush_D H2.out.1 (by have := HC.out; have := fu.spent_count; omega)).mono ?_
    rintro e w3 ⟨rfl, hd3, hk3⟩
    have E2 : fcode fu.spent = 2 := by unfold fcode; rw [HOK2.out]; rfl
    have E3 : fstate (s.write i b) fu.spent = s.write i b := by unfold fstate; rw [HOK2.out]; rfl
    rw [E3] at hd3
    have H3 := Lib.hid hd3
    have HR2 : Hid (∀ k, R2 k → ¬ V k) := Lib.hid (fun k hr hv => by
      rcases H2.out.2.2 k hr with h | h
      · exact HDIS.out k h hv
      · exact absurd (HV1.out.lt k hv).2 (by omega))
    have HV3 := Lib.hid (HV2.out.kept hk3 (fun k hv hr => HR2.out k hr hv))
    have HK3 : Hid (Kept (fun k => R k ∨ V k) w w3) := Lib.hid ((HK1.out.trans H2.out.2.1 (fun k _ h => .inl h)).trans hk3 (fun k hk h => by
      rcases H2.out.2.2 k h with h1 | h1
      · exact .inl h1
      · have := HS1.out; exact absurd hk (by omega)))
    clear hd3 hk3 E3 c0
    rw [E2]
    clear E2
    have f4 := HV3.out.fr 4
    have c4 := HV3.out.c4
    go_wp2
    go_ret
    refine ⟨rfl, R2, H3.out.beside (fun hr => HR2.out v hr HV3.out.pv) 4 _, HV3.out.set4 true, ?_, HK3.out.setCell (fun _ => .inr HV3.out.pv) _⟩
    · intro k hk
      rcases H2.out.2.2 k hk with h | h
      · exact .inl h
      · exact .inr (Nat.le_trans HS1.out h)

set_option maxHeartbeats 4000000 in
theorem lay_yes (area gen seq i : Nat) (t : ByteArray) (hD : DskR w B R m g s fu) (hV : InvV w B V v m l lv) (hdis : ∀ k, R k → ¬ V k) (hbig : s.Big) (hgen : gen < 4294967296) (hseq : seq < 1024) (ht : t.size + 14 ≤ s.size) (_ha : area ≤ 1) (hi : i = area * s.half + seq) (hil : i < s.now.length) (hc : fu.count < 900000) (hl : s.opn.length < 900000) (hBw : B ≤ w.heap.size) (hok : fu.ok = true) (hok2 : fu.spent.ok = true) :
    Calls Try.prog 40 #[.pointer (some ⟨v, 0, none⟩), .int .i64 (area : Int), .int .i64 (gen : Int), .int .i64 (seq : Int), .string t] w fun e w' => e = .returned (.bool true) ∧
      ∃ R', DskR w' B R' m g (s.write i (secB gen seq t s.size)).flush fu.spent.spent ∧ InvV w' B V v m l lv ∧ (∀ k, R' k → R k ∨ w.heap.size ≤ k) ∧ Kept (fun k => R k ∨ V k) w w' := by
  have hsz := hD.good.sz
  have hn1 := hD.good.n1
  have c0 := hV.c0
  have d0 := hD.c0
  obtain ⟨av, cap, d2⟩ := hD.c2
  obtain ⟨n, hn⟩ : ∃ n, n = s.now.length := ⟨_, rfl⟩
  rw [← hn] at d2 hil hn1
  obtain ⟨hf, hhf⟩ : ∃ hf, hf = s.half := ⟨_, rfl⟩
  obtain ⟨sz, hsz'⟩ : ∃ sz, sz = s.size := ⟨_, rfl⟩
  have hb128 := hbig.size
  rw [← hsz'] at d0 hsz hb128 ht
  have HP : Hid (∀ W, Calls Try.prog 59 #[.int .i64 (gen : Int), .int .i64 (seq : Int), .string t, .int .i64 (sz : Int)] W fun e w' => e = .returned (.tuple #[.string (secB gen seq t sz), .int .i64 0]) ∧ Below W.heap.size W w') := Lib.hid (fun W => Fr.fput_ok gen seq sz t W (by omega) (by omega) hb128 hsz ht)
  have HBS : Hid ((secB gen seq t sz).size = sz) := Lib.hid (Fr.sec_size gen seq t sz ht)
  obtain ⟨b, hb⟩ : ∃ b, b = secB gen seq t sz := ⟨_, rfl⟩
  rw [← hb] at HP HBS
  obtain ⟨ah, hah⟩ : ∃ ah, ah = area * hf := ⟨_, rfl⟩
  have hie : i = ah + seq := by rw [hi, hah, hhf]
  have eh : IntKind.i64.wrap ((n : Int) / 2) = (hf : Int) := by
    have e : (n : Int) / 2 = (hf : Int) := by rw [hhf, hn]; unfold Dk.half; omega
    rw [e]; exact IntWalk.i64_in _ (by omega)
  have em : IntKind.i64.wrap ((area : Int) * (hf : Int)) = (ah : Int) := by
    have e : (area : Int) * (hf : Int) = (ah : Int) := by rw [hah]; exact (Int.natCast_mul area hf).symm
    rw [e]; exact IntWalk.i64_in _ (by omega)
  have es : (ah : Int) + (seq : Int) = (i : Int) := by omega
  have ew : IntKind.i64.wrap (i : Int) = (i : Int) := IntWalk.i64_in _ (by omega)
  have HIL : Hid (i < s.now.length) := Lib.hid (by omega)
  have HBZ : Hid (b.size = s.size) := Lib.hid (HBS.out.trans hsz')
  have HN := Lib.hid hn
  have HDIS := Lib.hid hdis
  have HOK2 := Lib.hid hok2
  clear hok2
  rw [← hsz', ← hb]
  have HD := Lib.hid hD
  have HV := Lib.hid hV
  clear hn hsz' hb hD hV hbig hah hhf hie hi _ha hb128 hdis
  go_enter Try.func40, Try.ntmps40
  go_wp2_with fail
  refine (HP.out _).mono ?_
  rintro e w1 ⟨rfl, hb1⟩
  have HD1 := Lib.hid (HD.out.under hb1)
  have HV1 := Lib.hid (HV.out.under hb1)
  have HK1 : Hid (Kept (fun k => R k ∨ V k) w w1) := Lib.hid (Kept.ofBelow hb1)
  have HS1 : Hid (w.heap.size ≤ w1.heap.size) := Lib.hid hb1.size
  have hBw1 : B ≤ w1.heap.size := Nat.le_trans hBw hb1.size
  have HW : Hid (∀ wd, Alike wd w1 → Calls Try.prog 60 #[.pointer (some ⟨m, 0, none⟩), .int .i64 (i : Int), .string b] wd fun e w' => e = .returned (.int .i64 0) ∧ ∃ R', Hid (DskR w' B R' m g (s.write i b) fu.spent ∧ Kept R w1 w' ∧ (∀ k, R' k → R k ∨ w1.heap.size ≤ k))) := Lib.hid (fun wd hd => by
    have h := mwrite_here hd i b HD1.out HIL.out HBZ.out (by omega) (by omega) hBw1
    rw [hok] at h
    exact h)
  clear hb1 c0 d0 d2
  have c0 := HV1.out.c0
  have d0 := HD1.out.c0
  obtain ⟨av1, cap1, d2⟩ := HD1.out.c2
  rw [← HN.out] at d2
  have HC := Lib.hid hc
  have HLN := Lib.hid hl
  clear hok hc hl
  go_wp2_with fail
  go_region_with (first | (go_at_call 60; go_must (refine (HW.out _ ?_).mono ?_; (exact ⟨rfl, rfl, rfl, rfl⟩)); rintro e w2 ⟨rfl, R2, H2⟩))
  all_goals
    have HV2 := Lib.hid (HV1.out.kept H2.out.2.1 (fun k hv hr => HDIS.out k hr hv))
    clear c0 d0 d2
    have c0 := HV2.out.c0
    go_wp2_with fail
    refine (mflush_D H2.out.1 (by have := HC.out; have := fu.spent_count; omega)).mono ?_
    rintro e w3 ⟨rfl, hd3, hk3⟩
    have E2 : fcode fu.spent = 0 := by unfold fcode; rw [HOK2.out]; rfl
    have E3 : fstate (s.write i b) fu.spent = (s.write i b).flush := by unfold fstate; rw [HOK2.out]; rfl
    rw [E3] at hd3
    have H3 := Lib.hid hd3
    have HR2 : Hid (∀ k, R2 k → ¬ V k) := Lib.hid (fun k hr hv => by
      rcases H2.out.2.2 k hr with h | h
      · exact HDIS.out k h hv
      · exact absurd (HV1.out.lt k hv).2 (by omega))
    have HV3 := Lib.hid (HV2.out.kept hk3 (fun k hv hr => HR2.out k hr hv))
    have HK3 : Hid (Kept (fun k => R k ∨ V k) w w3) := Lib.hid ((HK1.out.trans H2.out.2.1 (fun k _ h => .inl h)).trans hk3 (fun k hk h => by
      rcases H2.out.2.2 k h with h1 | h1
      · exact .inl h1
      · have := HS1.out; exact absurd hk (by omega)))
    clear hd3 hk3 E3 c0
    rw [E2]
    clear E2
    have f4 := HV3.out.fr 4
    have c4 := HV3.out.c4
    go_wp2
    go_ret
    refine ⟨rfl, R2, H3.out, HV3.out, ?_, HK3.out⟩
    · intro k hk
      rcases H2.out.2.2 k hk with h | h
      · exact .inl h
      · exact .inr (Nat.le_trans HS1.out h)

theorem lay_any (area gen seq i : Nat) (t : ByteArray) (hD : DskR w B R m g s fu) (hV : InvV w B V v m l lv) (hdis : ∀ k, R k → ¬ V k) (hbig : s.Big) (hgen : gen < 4294967296) (hseq : seq < 1024) (ht : t.size + 14 ≤ s.size) (ha : area ≤ 1) (hi : i = area * s.half + seq) (hil : i < s.now.length) (hc : fu.count < 900000) (hl : s.opn.length < 900000) (hBw : B ≤ w.heap.size) :
    Calls Try.prog 40 #[.pointer (some ⟨v, 0, none⟩), .int .i64 (area : Int), .int .i64 (gen : Int), .int .i64 (seq : Int), .string t] w fun e w' => e = .returned (.bool (layOk fu)) ∧
      ∃ R', DskR w' B R' m g (layS s fu i (secB gen seq t s.size)) (layF fu) ∧ InvV w' B V v m { l with broken := if layOk fu then l.broken else true } lv ∧ (∀ k, R' k → R k ∨ w.heap.size ≤ k) ∧ Kept (fun k => R k ∨ V k) w w' := by
  cases h1 : fu.ok with
  | false =>
    have e1 : layOk fu = false := by unfold layOk; rw [h1]; rfl
    have e2 : ∀ b, layS s fu i b = s := fun b => by unfold layS; rw [h1]; rfl
    have e3 : layF fu = fu.spent := by unfold layF; rw [h1]; rfl
    rw [e1, e2, e3]
    exact lay_no area gen seq i t hD hV hdis hbig hgen hseq ht ha hi hil hc hl hBw h1
  | true =>
    have e3 : layF fu = fu.spent.spent := by unfold layF; rw [h1]; rfl
    rw [e3]
    cases h2 : fu.spent.ok with
    | false =>
      have e1 : layOk fu = false := by unfold layOk; rw [h1, h2]; rfl
      have e2 : ∀ b, layS s fu i b = s.write i b := fun b => by unfold layS; rw [h1, h2]; rfl
      rw [e1, e2]
      exact lay_half area gen seq i t hD hV hdis hbig hgen hseq ht ha hi hil hc hl hBw h1 h2
    | true =>
      have e1 : layOk fu = true := by unfold layOk; rw [h1, h2]; rfl
      have e2 : ∀ b, layS s fu i b = (s.write i b).flush := fun b => by unfold layS; rw [h1, h2]; rfl
      rw [e1, e2]
      exact lay_yes area gen seq i t hD hV hdis hbig hgen hseq ht ha hi hil hc hl hBw h1 h2
end Go.Proofs.Ytooikkjgcpngdaa
