/-
  The program's own log: lay, all ways; Append.
-/
import Derived.Test.YtooikkjgcpngdaaWalF
namespace Go.Proofs.Ytooikkjgcpngdaa
open Go.RowKit
open Fr (Rec secB valL lenV)

variable {P Q : Nat → Prop} {w w' : World} {B d f v : Nat} {fu : Fu} {s : Dk} {l : Lg}

theorem play_any (area gen seq i : Nat) (t : ByteArray) (h : WalP w B P d f s fu v l) (hbk : l.broken = false) (hbig : s.Big) (hgen : gen < 4294967296) (hseq : seq < 1024) (ht : t.size + 14 ≤ s.size) (ha : area ≤ 1) (hi : i = area * s.half + seq) (hil : i < s.now.length) (hc : fu.count < 900000) (hl : s.opn.length < 900000) (hBw : B ≤ w.heap.size) :
    Calls Try.prog 36 #[.pointer (some ⟨v, 0, none⟩), .int .i64 (area : Int), .int .i64 (gen : Int), .int .i64 (seq : Int), .string t] w fun e w' => e = .returned (.bool (layOk fu)) ∧
      ∃ P', WalP w' B P' d f (layS s fu i (secB gen seq t s.size)) (layF fu) v { l with broken := if layOk fu then l.broken else true } ∧ (∀ k, P' k → P k ∨ w.heap.size ≤ k) ∧ Kept (fun k => P k ∨ k = v) w w' := by
  cases h1 : fu.ok with
  | false =>
    have e1 : layOk fu = false := by unfold layOk; rw [h1]; rfl
    have e2 : ∀ b, layS s fu i b = s := fun b => by unfold layS; rw [h1]; rfl
    have e3 : layF fu = fu.spent := by unfold layF; rw [h1]; rfl
    rw [e1, e2, e3]
    exact play_no area gen seq i t h hbk hbig hgen hseq ht ha hi hil hc hl hBw h1
  | true =>
    have e3 : layF fu = fu.spent.spent := by unfold layF; rw [h1]; rfl
    rw [e3]
    cases h2 : fu.spent.ok with
    | false =>
      have e1 : layOk fu = false := by unfold layOk; rw [h1, h2]; rfl
      have e2 : ∀ b, layS s fu i b = s.write i b := fun b => by unfold layS; rw [h1, h2]; rfl
      rw [e1, e2]
      exact play_half area gen seq i t h hbk hbig hgen hseq ht ha hi hil hc hl hBw h1 h2
    | true =>
      have e1 : layOk fu = true := by unfold layOk; rw [h1, h2]; rfl
      have e2 : ∀ b, layS s fu i b = (s.write i b).flush := fun b => by unfold layS; rw [h1, h2]; rfl
      rw [e1, e2]
      exact play_yes area gen seq i t h hbk hbig hgen hseq ht ha hi hil hc hl hBw h1 h2
theorem play_here {wd : World} (hd : Alike wd w) (area gen seq i : Nat) (t : ByteArray) (h : WalP w B P d f s fu v l) (hbk : l.broken = false) (hbig : s.Big) (hgen : gen < 4294967296) (hseq : seq < 1024) (ht : t.size + 14 ≤ s.size) (ha : area ≤ 1) (hi : i = area * s.half + seq) (hil : i < s.now.length) (hc : fu.count < 900000) (hl : s.opn.length < 900000) (hBw : B ≤ w.heap.size) :
    Calls Try.prog 36 #[.pointer (some ⟨v, 0, none⟩), .int .i64 (area : Int), .int .i64 (gen : Int), .int .i64 (seq : Int), .string t] wd fun e w' => e = .returned (.bool (layOk fu)) ∧
      ∃ P', Hid (WalP w' B P' d f (layS s fu i (secB gen seq t s.size)) (layF fu) v { l with broken := if layOk fu then l.broken else true } ∧ (∀ k, P' k → P k ∨ w.heap.size ≤ k) ∧ Kept (fun k => P k ∨ k = v) w w') := by
  refine (play_any area gen seq i t (h.alike hd) hbk hbig hgen hseq ht ha hi hil hc hl (by rw [hd.2.2.2]; exact hBw)).mono ?_
  rintro e w' ⟨rfl, P', h1, h2, h3⟩
  exact ⟨rfl, P', Lib.hid ⟨h1, fun k hk => by rw [← hd.2.2.2]; exact h2 k hk, h3.alike hd⟩⟩
theorem Alike.trans {w1 w2 w3 : World} (h : Alike w1 w2) (k : Alike w2 w3) : Alike w1 w3 := ⟨h.1.trans k.1, h.2.1.trans k.2.1, h.2.2.1.trans k.2.2.1, h.2.2.2.trans k.2.2.2⟩
theorem Alike.drewN (w : World) (n : Nat) : Alike (w.drewN n) w := ⟨rfl, rfl, rfl, rfl⟩
theorem Alike.kept (h : Alike w' w) : Kept P w w' := ⟨h.1, h.2.1, h.2.2.1, by rw [h.2.2.2]; exact Nat.le_refl _, fun k _ _ => by rw [h.2.2.2]⟩

set_option maxHeartbeats 400000 in
theorem papp_broken (t : ByteArray) (h : WalP w B P d f s fu v l) (hb : l.broken = true) : Calls Try.prog 15 #[.pointer (some ⟨v, 0, none⟩), .string t] w fun e w' => e = .returned (.int .i64 2) ∧ Alike w' w := by
  have c4 := h.log.c4
  rw [hb] at c4
  clear h hb
  go_enter Try.func15, Try.ntmps15
  go_wp2
  go_ret
  exact ⟨rfl, rfl, rfl, rfl, rfl⟩
set_option maxHeartbeats 1000000 in
theorem papp_long (t : ByteArray) (hts : t.size ≤ maxLen) (h : WalP w B P d f s fu v l) (hb : l.broken = false) (hbig : s.Big) (hl : s.size < t.size + 14) : Calls Try.prog 15 #[.pointer (some ⟨v, 0, none⟩), .string t] w fun e w' => e = .returned (.int .i64 5) ∧ Alike w' w := by
  have c4 := h.log.c4
  rw [hb] at c4
  have HI := Lib.hid (isLong_any t hts h hbig true (by simpa using hl))
  clear h hb hbig hl
  go_enter Try.func15, Try.ntmps15
  go_wp2_with fail
  refine HI.out.mono ?_
  rintro e w' ⟨rfl, rfl⟩
  go_wp2
  go_ret
  exact ⟨rfl, rfl, rfl, rfl, rfl⟩
set_option maxHeartbeats 1000000 in
theorem papp_full (t : ByteArray) (hts : t.size ≤ maxLen) (h : WalP w B P d f s fu v l) (hb : l.broken = false) (hbig : s.Big) (hl : t.size + 14 ≤ s.size) (hlen : l.list.length ≤ 512) (hf : s.half = l.list.length + 1) : Calls Try.prog 15 #[.pointer (some ⟨v, 0, none⟩), .string t] w fun e w' => e = .returned (.int .i64 3) ∧ Alike w' w := by
  have c4 := h.log.c4
  rw [hb] at c4
  have HI := Lib.hid (isLong_any t hts h hbig false (by simpa using hl))
  have HR := Lib.hid (proom_any h hlen)
  rw [show (s.half : Int) - 1 - (l.list.length : Int) = 0 by omega] at HR
  clear h hb hbig hl hf hlen
  go_enter Try.func15, Try.ntmps15
  go_wp2_with fail
  refine HI.out.mono ?_
  rintro e w' ⟨rfl, rfl⟩
  go_wp2_with fail
  refine HR.out.mono ?_
  rintro e w1 ⟨rfl, n, hn⟩
  have hA : Alike w1 w := by rw [hn]; exact Alike.drewN _ _
  clear hn
  go_wp2
  go_ret
  exact ⟨rfl, hA⟩

set_option maxRecDepth 20000 in
set_option maxHeartbeats 2000000 in
theorem papp_no (t : ByteArray) (hts : t.size ≤ maxLen) (h : WalP w B P d f s fu v l) (hb : l.broken = false) (hbig : s.Big) (hl : t.size + 14 ≤ s.size) (hf : l.list.length + 1 < s.half) (ha : l.area ≤ 1) (hgen : l.gen < 4294967296) (hc : fu.count < 900000) (hln : s.opn.length < 900000) (hBw : B ≤ w.heap.size) (hok : layOk fu = false) :
    Calls Try.prog 15 #[.pointer (some ⟨v, 0, none⟩), .string t] w fun e w' => e = .returned (.int .i64 2) ∧ ∃ P', WalP w' B P' d f (layS s fu (l.area * s.half + (l.list.length + 1)) (secB l.gen (l.list.length + 1) t s.size)) (layF fu) v { l with broken := true } ∧ (∀ k, P' k → P k ∨ w.heap.size ≤ k) ∧ Kept (fun k => P k ∨ k = v) w w' := by
  obtain ⟨hf5, h2h⟩ := Dk.half_le h.dsk.good
  have hah : l.area * s.half ≤ s.half := by rcases (by omega : l.area = 0 ∨ l.area = 1) with e | e <;> rw [e] <;> omega
  have c4 := h.log.c4
  rw [hb] at c4
  have HI := Lib.hid (isLong_any t hts h hbig false (by simpa using hl))
  have HR := Lib.hid (proom_any h (by omega))
  obtain ⟨r, hr⟩ : ∃ r : Int, r = (s.half : Int) - 1 - (l.list.length : Int) := ⟨_, rfl⟩
  rw [← hr] at HR
  have e8 : (r == 0) = false := by simp; omega
  obtain ⟨L1, hL1⟩ : ∃ L1, L1 = l.list.length + 1 := ⟨_, rfl⟩
  obtain ⟨A, hA⟩ : ∃ A, A = l.area := ⟨_, rfl⟩
  obtain ⟨G, hG⟩ : ∃ G, G = l.gen := ⟨_, rfl⟩
  have HL : Hid (∀ wd, Alike wd w → Calls Try.prog 36 #[.pointer (some ⟨v, 0, none⟩), .int .i64 (A : Int), .int .i64 (G : Int), .int .i64 (L1 : Int), .string t] wd fun e w' => e = .returned (.bool false) ∧
      ∃ P', Hid (WalP w' B P' d f (layS s fu (l.area * s.half + (l.list.length + 1)) (secB l.gen (l.list.length + 1) t s.size)) (layF fu) v { l with broken := true } ∧ (∀ k, P' k → P k ∨ w.heap.size ≤ k) ∧ Kept (fun k => P k ∨ k = v) w w')) := Lib.hid (fun wd hd => by
    rw [hL1, hA, hG]
    have hh := play_here hd l.area l.gen (l.list.length + 1) _ t h hb hbig hgen (by omega) hl ha rfl (by omega) hc hln hBw
    rw [hok] at hh
    exact hh)
  obtain ⟨S', hS'⟩ : ∃ S', S' = layS s fu (l.area * s.half + (l.list.length + 1)) (secB l.gen (l.list.length + 1) t s.size) := ⟨_, rfl⟩
  rw [← hS'] at HL ⊢
  obtain ⟨L, hL⟩ : ∃ L, L = l.list.length := ⟨_, rfl⟩
  have eL : (L : Int) + 1 = (L1 : Int) := by omega
  have eW : IntKind.i64.wrap (L1 : Int) = (L1 : Int) := IntWalk.i64_in _ (by omega)
  have hL5 : L ≤ 512 := by omega
  have HLE := Lib.hid hL
  have HAE := Lib.hid hA
  have HGE := Lib.hid hG
  have HL1 := Lib.hid hL1
  have HH := Lib.hid h
  clear hL1 h hb hbig hr hf hL hA hG ha hah hgen hf5 h2h hc hln hok hS' hBw hl
  go_enter Try.func15, Try.ntmps15
  go_wp2_with fail
  refine HI.out.mono ?_
  rintro e w' ⟨rfl, rfl⟩
  go_wp2_with fail
  refine HR.out.mono ?_
  rintro e w1 ⟨rfl, n, hn⟩
  have HA1 : Hid (Alike w1 w) := Lib.hid (by rw [hn]; exact Alike.drewN _ _)
  clear hn c4
  have HH1 := Lib.hid (HH.out.alike HA1.out)
  have c1 := HH1.out.log.c1
  have c2 := HH1.out.log.c2
  have c3 := HH1.out.log.c3
  rw [← HAE.out] at c1
  rw [← HGE.out] at c2
  rw [← HLE.out] at c3
  go_wp2_with fail
  go_region_held3 (fun wx => wx.cell? ⟨v, 1, none⟩ = some (.int .i64 (A : Int)) ∧ wx.cell? ⟨v, 2, none⟩ = some (.int .i64 (G : Int)) ∧ wx.cell? ⟨v, 3, none⟩ = some (.int .i64 (L : Int))) (first | exact ⟨c1, c2, c3⟩ | exact ⟨q1, q2, q3⟩)
    (first | (go_at_call 36; refine (HL.out _ (Alike.trans ?_ HA1.out)).mono ?_; (exact ⟨rfl, rfl, rfl, rfl⟩); rintro e w2 ⟨rfl, P2, H2⟩; have q1 := H2.out.1.log.c1; have q2 := H2.out.1.log.c2; have q3 := H2.out.1.log.c3; simp only [← HAE.out] at q1; simp only [← HGE.out] at q2; simp only [← HLE.out] at q3))
  clear q1 q2 q3 c1 c2 c3
  go_wp2
  go_ret
  exact ⟨rfl, P2, H2.out.1, H2.out.2.1, H2.out.2.2⟩

set_option maxRecDepth 20000 in
set_option maxHeartbeats 2000000 in
theorem papp_ok (t : ByteArray) (hts : t.size ≤ maxLen) (h : WalP w B P d f s fu v l) (hb : l.broken = false) (hbig : s.Big) (hl : t.size + 14 ≤ s.size) (hf : l.list.length + 1 < s.half) (ha : l.area ≤ 1) (hgen : l.gen < 4294967296) (hc : fu.count < 900000) (hln : s.opn.length < 900000) (hBw : B ≤ w.heap.size) (hok : layOk fu = true) :
    Calls Try.prog 15 #[.pointer (some ⟨v, 0, none⟩), .string t] w fun e w' => e = .returned (.int .i64 0) ∧ ∃ P', WalP w' B P' d f (layS s fu (l.area * s.half + (l.list.length + 1)) (secB l.gen (l.list.length + 1) t s.size)) (layF fu) v { l with list := l.list ++ [t] } ∧ (∀ k, P' k → P k ∨ w.heap.size ≤ k) ∧ Kept (fun k => P k ∨ k = v) w w' := by
  obtain ⟨hf5, h2h⟩ := Dk.half_le h.dsk.good
  have hah : l.area * s.half ≤ s.half := by rcases (by omega : l.area = 0 ∨ l.area = 1) with e | e <;> rw [e] <;> omega
  have c4 := h.log.c4
  rw [hb] at c4
  have HI := Lib.hid (isLong_any t hts h hbig false (by simpa using hl))
  have HR := Lib.hid (proom_any h (by omega))
  obtain ⟨r, hr⟩ : ∃ r : Int, r = (s.half : Int) - 1 - (l.list.length : Int) := ⟨_, rfl⟩
  rw [← hr] at HR
  have e8 : (r == 0) = false := by simp; omega
  obtain ⟨L1, hL1⟩ : ∃ L1, L1 = l.list.length + 1 := ⟨_, rfl⟩
  obtain ⟨A, hA⟩ : ∃ A, A = l.area := ⟨_, rfl⟩
  obtain ⟨G, hG⟩ : ∃ G, G = l.gen := ⟨_, rfl⟩
  have HL : Hid (∀ wd, Alike wd w → Calls Try.prog 36 #[.pointer (some ⟨v, 0, none⟩), .int .i64 (A : Int), .int .i64 (G : Int), .int .i64 (L1 : Int), .string t] wd fun e w' => e = .returned (.bool true) ∧
      ∃ P', Hid (WalP w' B P' d f (layS s fu (l.area * s.half + (l.list.length + 1)) (secB l.gen (l.list.length + 1) t s.size)) (layF fu) v { l with broken := l.broken } ∧ (∀ k, P' k → P k ∨ w.heap.size ≤ k) ∧ Kept (fun k => P k ∨ k = v) w w')) := Lib.hid (fun wd hd => by
    rw [hL1, hA, hG]
    have hh := play_here hd l.area l.gen (l.list.length + 1) _ t h hb hbig hgen (by omega) hl ha rfl (by omega) hc hln hBw
    rw [hok] at hh
    exact hh)
  obtain ⟨S', hS'⟩ : ∃ S', S' = layS s fu (l.area * s.half + (l.list.length + 1)) (secB l.gen (l.list.length + 1) t s.size) := ⟨_, rfl⟩
  rw [← hS'] at HL ⊢
  obtain ⟨L, hL⟩ : ∃ L, L = l.list.length := ⟨_, rfl⟩
  have eL : (L : Int) + 1 = (L1 : Int) := by omega
  have eW : IntKind.i64.wrap (L1 : Int) = (L1 : Int) := IntWalk.i64_in _ (by omega)
  have hL5 : L ≤ 512 := by omega
  have HLE := Lib.hid hL
  have HAE := Lib.hid hA
  have HGE := Lib.hid hG
  have HL1 := Lib.hid hL1
  have HH := Lib.hid h
  clear hL1 h hb hbig hr hf hL hA hG ha hah hgen hf5 h2h hc hln hok hS' hBw hl
  go_enter Try.func15, Try.ntmps15
  go_wp2_with fail
  refine HI.out.mono ?_
  rintro e w' ⟨rfl, rfl⟩
  go_wp2_with fail
  refine HR.out.mono ?_
  rintro e w1 ⟨rfl, n, hn⟩
  have HA1 : Hid (Alike w1 w) := Lib.hid (by rw [hn]; exact Alike.drewN _ _)
  clear hn c4
  have HH1 := Lib.hid (HH.out.alike HA1.out)
  have c1 := HH1.out.log.c1
  have c2 := HH1.out.log.c2
  have c3 := HH1.out.log.c3
  rw [← HAE.out] at c1
  rw [← HGE.out] at c2
  rw [← HLE.out] at c3
  go_wp2_with fail
  go_region_held3 (fun wx => wx.cell? ⟨v, 1, none⟩ = some (.int .i64 (A : Int)) ∧ wx.cell? ⟨v, 2, none⟩ = some (.int .i64 (G : Int)) ∧ wx.cell? ⟨v, 3, none⟩ = some (.int .i64 (L : Int))) (first | exact ⟨c1, c2, c3⟩ | exact ⟨q1, q2, q3⟩)
    (first | (go_at_call 36; refine (HL.out _ (Alike.trans ?_ HA1.out)).mono ?_; (exact ⟨rfl, rfl, rfl, rfl⟩); rintro e w2 ⟨rfl, P2, H2⟩; have q1 := H2.out.1.log.c1; have q2 := H2.out.1.log.c2; have q3 := H2.out.1.log.c3; simp only [← HAE.out] at q1; simp only [← HGE.out] at q2; simp only [← HLE.out] at q3))
  have HLG := Lib.hid H2.out.1
  clear q1 q2 q3 c1 c2 c3
  have c3 := HLG.out.log.c3
  have f3 := HLG.out.log.fr 3
  simp only [← HLE.out] at c3
  go_wp2
  go_ret
  refine ⟨rfl, P2, ⟨HLG.out.dsk.beside HLG.out.pv 3 _, ?_, HLG.out.pv, HLG.out.bv⟩, H2.out.2.1, H2.out.2.2.setCell (fun _ => .inr rfl) _⟩
  have h3 := HLG.out.log.set3 (l.list ++ [t]) (L1 : Int) (by rw [List.length_append, HL1.out]; simp)
  exact h3

/-- The program's Append, all ways. -/
theorem pappend_W (t : ByteArray) (hts : t.size ≤ maxLen) (h : WalP w B P d f s fu v l) (hbig : s.Big) (hlen : l.list.length + 1 ≤ s.half) (ha : l.area ≤ 1) (hgen : l.gen < 4294967296) (hc : fu.count < 900000) (hln : s.opn.length < 900000) (hBw : B ≤ w.heap.size) :
    Calls Try.prog 15 #[.pointer (some ⟨v, 0, none⟩), .string t] w fun e w' => e = .returned (.int .i64 (appendR s fu l t).1) ∧ ∃ P', WalP w' B P' d f (appendR s fu l t).2.1 (appendR s fu l t).2.2.1 v (appendR s fu l t).2.2.2 ∧ (∀ k, P' k → P k ∨ w.heap.size ≤ k) ∧ Kept (fun k => P k ∨ k = v) w w' := by
  have hf5 := (Dk.half_le h.dsk.good).1
  have same : ∀ (c : Int), Calls Try.prog 15 #[.pointer (some ⟨v, 0, none⟩), .string t] w (fun e w' => e = .returned (.int .i64 c) ∧ Alike w' w) → Calls Try.prog 15 #[.pointer (some ⟨v, 0, none⟩), .string t] w fun e w' => e = .returned (.int .i64 c) ∧ ∃ P', WalP w' B P' d f s fu v l ∧ (∀ k, P' k → P k ∨ w.heap.size ≤ k) ∧ Kept (fun k => P k ∨ k = v) w w' := by
    intro c hcall
    refine hcall.mono ?_
    rintro e w' ⟨rfl, hA⟩
    exact ⟨rfl, P, h.alike hA, fun k hk => .inl hk, hA.kept⟩
  by_cases hb : l.broken = true
  · have e : appendR s fu l t = (2, s, fu, l) := by unfold appendR; rw [if_pos hb]
    rw [e]
    exact same 2 (papp_broken t h hb)
  have hb' : l.broken = false := by simpa using hb
  by_cases hl : s.size < t.size + 14
  · have e : appendR s fu l t = (5, s, fu, l) := by unfold appendR; rw [if_neg hb, if_pos hl]
    rw [e]
    exact same 5 (papp_long t hts h hb' hbig hl)
  by_cases hfu : s.half ≤ l.list.length + 1
  · have e : appendR s fu l t = (3, s, fu, l) := by unfold appendR; rw [if_neg hb, if_neg hl, if_pos hfu]
    rw [e]
    exact same 3 (papp_full t hts h hb' hbig (by omega) (by omega) (by omega))
  cases hok : layOk fu with
  | false =>
    have e : appendR s fu l t = (2, layS s fu (l.area * s.half + (l.list.length + 1)) (secB l.gen (l.list.length + 1) t s.size), layF fu, { l with broken := true }) := by unfold appendR; rw [if_neg hb, if_neg hl, if_neg hfu, hok]; rfl
    rw [e]
    exact papp_no t hts h hb' hbig (by omega) (by omega) ha hgen hc hln hBw hok
  | true =>
    have e : appendR s fu l t = (0, layS s fu (l.area * s.half + (l.list.length + 1)) (secB l.gen (l.list.length + 1) t s.size), layF fu, { l with list := l.list ++ [t] }) := by unfold appendR; rw [if_neg hb, if_neg hl, if_neg hfu, hok]; rfl
    rw [e]
    exact papp_ok t hts h hb' hbig (by omega) (by omega) ha hgen hc hln hBw hok
end Go.Proofs.Ytooikkjgcpngdaa
