/-
  The program's own log: Checkpoint.
-/
import Derived.Test.YtooikkjgcpngdaaWalG
namespace Go.Proofs.Ytooikkjgcpngdaa
open Go.RowKit
open Fr (Rec secB valL lenV)

variable {P Q : Nat → Prop} {w w' : World} {B d f v : Nat} {fu : Fu} {s : Dk} {l : Lg}

set_option maxHeartbeats 400000 in
theorem pchk_broken (t : ByteArray) (h : WalP w B P d f s fu v l) (hb : l.broken = true) : Calls Try.prog 17 #[.pointer (some ⟨v, 0, none⟩), .string t] w fun e w' => e = .returned (.int .i64 2) ∧ Alike w' w := by
  have c4 := h.log.c4
  rw [hb] at c4
  clear h hb
  go_enter Try.func17, Try.ntmps17
  go_wp2
  go_ret
  exact ⟨rfl, rfl, rfl, rfl, rfl⟩
set_option maxHeartbeats 1000000 in
theorem pchk_long (t : ByteArray) (hts : t.size ≤ maxLen) (h : WalP w B P d f s fu v l) (hb : l.broken = false) (hbig : s.Big) (hl : s.size < t.size + 14) : Calls Try.prog 17 #[.pointer (some ⟨v, 0, none⟩), .string t] w fun e w' => e = .returned (.int .i64 5) ∧ Alike w' w := by
  have c4 := h.log.c4
  rw [hb] at c4
  have HI := Lib.hid (isLong_any t hts h hbig true (by simpa using hl))
  clear h hb hbig hl
  go_enter Try.func17, Try.ntmps17
  go_wp2_with fail
  refine HI.out.mono ?_
  rintro e w' ⟨rfl, rfl⟩
  go_wp2
  go_ret
  exact ⟨rfl, rfl, rfl, rfl, rfl⟩
set_option maxHeartbeats 1000000 in
theorem pchk_over (t : ByteArray) (hts : t.size ≤ maxLen) (h : WalP w B P d f s fu v l) (hb : l.broken = false) (hbig : s.Big) (hl : t.size + 14 ≤ s.size) (hg : l.gen = 4294967295) : Calls Try.prog 17 #[.pointer (some ⟨v, 0, none⟩), .string t] w fun e w' => e = .returned (.int .i64 9) ∧ Alike w' w := by
  have c4 := h.log.c4
  rw [hb] at c4
  have c2 := h.log.c2
  rw [hg] at c2
  have HI := Lib.hid (isLong_any t hts h hbig false (by simpa using hl))
  clear h hb hbig hl hg
  go_enter Try.func17, Try.ntmps17
  go_wp2_with fail
  refine HI.out.mono ?_
  rintro e w' ⟨rfl, rfl⟩
  go_wp2
  go_ret
  exact ⟨rfl, rfl, rfl, rfl, rfl⟩

set_option maxRecDepth 20000 in
set_option maxHeartbeats 2000000 in
theorem pchk_no1 (t : ByteArray) (hts : t.size ≤ maxLen) (h : WalP w B P d f s fu v l) (hb : l.broken = false) (hbig : s.Big) (hl : t.size + 14 ≤ s.size) (hg : l.gen < 4294967295) (ha : l.area ≤ 1) (hc : fu.count < 800000) (hln : s.opn.length < 800000) (hBw : B ≤ w.heap.size) (hok : layOk fu = false) :
    Calls Try.prog 17 #[.pointer (some ⟨v, 0, none⟩), .string t] w fun e w' => e = .returned (.int .i64 2) ∧ ∃ P', WalP w' B P' d f (layS s fu ((1 - l.area) * s.half + 1) (secB (l.gen + 1) 1 t s.size)) (layF fu) v { l with broken := true } ∧ (∀ k, P' k → P k ∨ w.heap.size ≤ k) ∧ Kept (fun k => P k ∨ k = v) w w' := by
  obtain ⟨hf5, h2h⟩ := Dk.half_le h.dsk.good
  have hb4 := hbig.len
  have hf2 : 2 ≤ s.half := by unfold Dk.half; omega
  have hah : (1 - l.area) * s.half ≤ s.half := by rcases (by omega : l.area = 0 ∨ l.area = 1) with e | e <;> rw [e] <;> omega
  have c4 := h.log.c4
  rw [hb] at c4
  have c1 := h.log.c1
  have c2 := h.log.c2
  have HI := Lib.hid (isLong_any t hts h hbig false (by simpa using hl))
  obtain ⟨A, hA⟩ : ∃ A, A = l.area := ⟨_, rfl⟩
  obtain ⟨G, hG⟩ : ∃ G, G = l.gen := ⟨_, rfl⟩
  obtain ⟨A1, hA1⟩ : ∃ A, A = 1 - l.area := ⟨_, rfl⟩
  obtain ⟨G1, hG1⟩ : ∃ G, G = l.gen + 1 := ⟨_, rfl⟩
  obtain ⟨S1, hS1⟩ : ∃ S, S = layS s fu ((1 - l.area) * s.half + 1) (secB (l.gen + 1) 1 t s.size) := ⟨_, rfl⟩
  have HL : Hid (∀ wd, Alike wd w → Calls Try.prog 36 #[.pointer (some ⟨v, 0, none⟩), .int .i64 (A1 : Int), .int .i64 (G1 : Int), .int .i64 1, .string t] wd fun e w' => e = .returned (.bool false) ∧
      ∃ P', Hid (WalP w' B P' d f S1 (layF fu) v { l with broken := true } ∧ (∀ k, P' k → P k ∨ w.heap.size ≤ k) ∧ Kept (fun k => P k ∨ k = v) w w')) := Lib.hid (fun wd hd => by
    rw [hA1, hG1, hS1]
    have hh := play_here hd (1 - l.area) (l.gen + 1) 1 _ t h hb hbig (by omega) (by omega) hl (by omega) rfl (by omega) (by omega) (by omega) hBw
    rw [hok] at hh
    exact hh)
  rw [← hS1]
  have eA : (1 : Int) - (A : Int) = (A1 : Int) := by omega
  have eA2 : IntKind.i64.wrap (A1 : Int) = (A1 : Int) := IntWalk.i64_in _ (by omega)
  have eG : (G : Int) + 1 = (G1 : Int) := by omega
  have eG2 : IntKind.i64.wrap (G1 : Int) = (G1 : Int) := IntWalk.i64_in _ (by omega)
  have e9 : ((G : Int) == 4294967295) = false := by simp; omega
  have hG0 : G < 4294967295 := by omega
  rw [← hA] at c1
  rw [← hG] at c2
  have HAE := Lib.hid hA1
  have HGE := Lib.hid hG1
  have HBW := Lib.hid hBw
  have HTH : Hid (headT = ⟨#[104, 101, 97, 100]⟩) := Lib.hid rfl
  clear h hb hbig hl hg ha hc hln hBw hok hA hG hA1 hG1 hS1 hf5 h2h hb4 hf2 hah 
  go_enter Try.func17, Try.ntmps17
  go_wp2_with fail
  refine HI.out.mono ?_
  rintro e w' ⟨rfl, rfl⟩
  go_wp2
  go_quiet (fail)
  go_wp2_with fail
  refine (HL.out _ ?_).mono ?_
  · exact ⟨rfl, rfl, rfl, rfl⟩
  rintro e w2 ⟨rfl, P2, H2⟩
  clear c1 c2 c4
  go_wp2
  go_ret
  exact ⟨rfl, P2, H2.out.1, H2.out.2.1, H2.out.2.2⟩

set_option maxRecDepth 20000 in
set_option maxHeartbeats 2000000 in
theorem pchk_no2 (t : ByteArray) (hts : t.size ≤ maxLen) (h : WalP w B P d f s fu v l) (hb : l.broken = false) (hbig : s.Big) (hl : t.size + 14 ≤ s.size) (hg : l.gen < 4294967295) (ha : l.area ≤ 1) (hc : fu.count < 800000) (hln : s.opn.length < 800000) (hBw : B ≤ w.heap.size) (hok : layOk fu = true) (hok2 : layOk (layF fu) = false) :
    Calls Try.prog 17 #[.pointer (some ⟨v, 0, none⟩), .string t] w fun e w' => e = .returned (.int .i64 2) ∧ ∃ P', WalP w' B P' d f (layS (layS s fu ((1 - l.area) * s.half + 1) (secB (l.gen + 1) 1 t s.size)) (layF fu) ((1 - l.area) * s.half + 0) (secB (l.gen + 1) 0 headT s.size)) (layF (layF fu)) v { l with broken := true } ∧ (∀ k, P' k → P k ∨ w.heap.size ≤ k) ∧ Kept (fun k => P k ∨ k = v) w w' := by
  obtain ⟨hf5, h2h⟩ := Dk.half_le h.dsk.good
  have hb4 := hbig.len
  have hf2 : 2 ≤ s.half := by unfold Dk.half; omega
  have hah : (1 - l.area) * s.half ≤ s.half := by rcases (by omega : l.area = 0 ∨ l.area = 1) with e | e <;> rw [e] <;> omega
  have c4 := h.log.c4
  rw [hb] at c4
  have c1 := h.log.c1
  have c2 := h.log.c2
  have HI := Lib.hid (isLong_any t hts h hbig false (by simpa using hl))
  obtain ⟨A, hA⟩ : ∃ A, A = l.area := ⟨_, rfl⟩
  obtain ⟨G, hG⟩ : ∃ G, G = l.gen := ⟨_, rfl⟩
  obtain ⟨A1, hA1⟩ : ∃ A, A = 1 - l.area := ⟨_, rfl⟩
  obtain ⟨G1, hG1⟩ : ∃ G, G = l.gen + 1 := ⟨_, rfl⟩
  obtain ⟨S1, hS1⟩ : ∃ S, S = layS s fu ((1 - l.area) * s.half + 1) (secB (l.gen + 1) 1 t s.size) := ⟨_, rfl⟩
  have HL : Hid (∀ wd, Alike wd w → Calls Try.prog 36 #[.pointer (some ⟨v, 0, none⟩), .int .i64 (A1 : Int), .int .i64 (G1 : Int), .int .i64 1, .string t] wd fun e w' => e = .returned (.bool true) ∧
      ∃ P', Hid (WalP w' B P' d f S1 (layF fu) v { l with broken := l.broken } ∧ (∀ k, P' k → P k ∨ w.heap.size ≤ k) ∧ Kept (fun k => P k ∨ k = v) w w')) := Lib.hid (fun wd hd => by
    rw [hA1, hG1, hS1]
    have hh := play_here hd (1 - l.area) (l.gen + 1) 1 _ t h hb hbig (by omega) (by omega) hl (by omega) rfl (by omega) (by omega) (by omega) hBw
    rw [hok] at hh
    exact hh)
  obtain ⟨S2, hS2⟩ : ∃ S, S = layS S1 (layF fu) ((1 - l.area) * s.half + 0) (secB (l.gen + 1) 0 headT s.size) := ⟨_, rfl⟩
  obtain ⟨k1, k2⟩ := layS_len s fu ((1 - l.area) * s.half + 1) (secB (l.gen + 1) 1 t s.size)
  have k3 := layS_half s fu ((1 - l.area) * s.half + 1) (secB (l.gen + 1) 1 t s.size)
  have k4 := layS_opn s fu ((1 - l.area) * s.half + 1) (secB (l.gen + 1) 1 t s.size)
  have k5 := layS_big fu ((1 - l.area) * s.half + 1) (secB (l.gen + 1) 1 t s.size) hbig
  have k6 := layF_count fu
  rw [← hS1] at k1 k2 k3 k4 k5
  have HL2 : Hid (∀ w2 P2, WalP w2 B P2 d f S1 (layF fu) v l → B ≤ w2.heap.size → Calls Try.prog 36 #[.pointer (some ⟨v, 0, none⟩), .int .i64 (A1 : Int), .int .i64 (G1 : Int), .int .i64 0, .string headT] w2 fun e w' => e = .returned (.bool false) ∧
      ∃ P', Hid (WalP w' B P' d f S2 (layF (layF fu)) v { l with broken := true } ∧ (∀ k, P' k → P2 k ∨ w2.heap.size ≤ k) ∧ Kept (fun k => P2 k ∨ k = v) w2 w')) := Lib.hid (fun w2 P2 h2 hB2 => by
    rw [hA1, hG1, hS2]
    have hh := play_here (wd := w2) ⟨rfl, rfl, rfl, rfl⟩ (1 - l.area) (l.gen + 1) 0 ((1 - l.area) * s.half + 0) headT h2 hb k5 (by omega) (by omega) (by rw [k2, headT_size]; have := hbig.size; omega) (by omega) (by rw [k3]) (by rw [k1]; omega) (by omega) (by omega) hB2
    rw [hok2, k2] at hh
    exact hh)
  rw [← hS1, ← hS2]
  have eA : (1 : Int) - (A : Int) = (A1 : Int) := by omega
  have eA2 : IntKind.i64.wrap (A1 : Int) = (A1 : Int) := IntWalk.i64_in _ (by omega)
  have eG : (G : Int) + 1 = (G1 : Int) := by omega
  have eG2 : IntKind.i64.wrap (G1 : Int) = (G1 : Int) := IntWalk.i64_in _ (by omega)
  have e9 : ((G : Int) == 4294967295) = false := by simp; omega
  have hG0 : G < 4294967295 := by omega
  rw [← hA] at c1
  rw [← hG] at c2
  have HAE := Lib.hid hA1
  have HGE := Lib.hid hG1
  have HBW := Lib.hid hBw
  have HTH : Hid (headT = ⟨#[104, 101, 97, 100]⟩) := Lib.hid rfl
  clear h hb hbig hl hg ha hc hln hBw hok hA hG hA1 hG1 hS1 hf5 h2h hb4 hf2 hah hS2 k1 k2 k3 k4 k5 k6 hok2
  go_enter Try.func17, Try.ntmps17
  go_wp2_with fail
  refine HI.out.mono ?_
  rintro e w' ⟨rfl, rfl⟩
  go_wp2
  go_quiet (fail)
  go_wp2_with fail
  refine (HL.out _ ?_).mono ?_
  · exact ⟨rfl, rfl, rfl, rfl⟩
  rintro e w2 ⟨rfl, P2, H2⟩
  clear c1 c2 c4
  go_wp2_with fail
  refine (HL2.out w2 P2 H2.out.1 (Nat.le_trans HBW.out H2.out.2.2.size)).mono ?_
  rintro e w3 ⟨rfl, P3, H3⟩
  have HN : Hid (∀ k, P3 k → P k ∨ w.heap.size ≤ k) := Lib.hid (fun k hk => (H3.out.2.1 k hk).elim (H2.out.2.1 k) (fun h => .inr (Nat.le_trans H2.out.2.2.size h)))
  have HK : Hid (Kept (fun k => P k ∨ k = v) w w3) := Lib.hid (H2.out.2.2.trans H3.out.2.2 (fun k hk h => h.elim (fun h1 => (H2.out.2.1 k h1).elim .inl (fun h2 => absurd hk (by omega))) .inr))
  go_wp2
  go_ret
  exact ⟨rfl, P3, H3.out.1, HN.out, HK.out⟩

set_option maxRecDepth 20000 in
set_option maxHeartbeats 2000000 in
theorem pchk_ok (t : ByteArray) (hts : t.size ≤ maxLen) (h : WalP w B P d f s fu v l) (hb : l.broken = false) (hbig : s.Big) (hl : t.size + 14 ≤ s.size) (hg : l.gen < 4294967295) (ha : l.area ≤ 1) (hc : fu.count < 800000) (hln : s.opn.length < 800000) (hBw : B ≤ w.heap.size) (hok : layOk fu = true) (hok2 : layOk (layF fu) = true) :
    Calls Try.prog 17 #[.pointer (some ⟨v, 0, none⟩), .string t] w fun e w' => e = .returned (.int .i64 0) ∧ ∃ P', WalP w' B P' d f (layS (layS s fu ((1 - l.area) * s.half + 1) (secB (l.gen + 1) 1 t s.size)) (layF fu) ((1 - l.area) * s.half + 0) (secB (l.gen + 1) 0 headT s.size)) (layF (layF fu)) v ⟨1 - l.area, l.gen + 1, [t], l.broken⟩ ∧ (∀ k, P' k → P k ∨ w.heap.size ≤ k) ∧ Kept (fun k => P k ∨ k = v) w w' := by
  obtain ⟨hf5, h2h⟩ := Dk.half_le h.dsk.good
  have hb4 := hbig.len
  have hf2 : 2 ≤ s.half := by unfold Dk.half; omega
  have hah : (1 - l.area) * s.half ≤ s.half := by rcases (by omega : l.area = 0 ∨ l.area = 1) with e | e <;> rw [e] <;> omega
  have c4 := h.log.c4
  rw [hb] at c4
  have c1 := h.log.c1
  have c2 := h.log.c2
  have HI := Lib.hid (isLong_any t hts h hbig false (by simpa using hl))
  obtain ⟨A, hA⟩ : ∃ A, A = l.area := ⟨_, rfl⟩
  obtain ⟨G, hG⟩ : ∃ G, G = l.gen := ⟨_, rfl⟩
  obtain ⟨A1, hA1⟩ : ∃ A, A = 1 - l.area := ⟨_, rfl⟩
  obtain ⟨G1, hG1⟩ : ∃ G, G = l.gen + 1 := ⟨_, rfl⟩
  obtain ⟨S1, hS1⟩ : ∃ S, S = layS s fu ((1 - l.area) * s.half + 1) (secB (l.gen + 1) 1 t s.size) := ⟨_, rfl⟩
  have HL : Hid (∀ wd, Alike wd w → Calls Try.prog 36 #[.pointer (some ⟨v, 0, none⟩), .int .i64 (A1 : Int), .int .i64 (G1 : Int), .int .i64 1, .string t] wd fun e w' => e = .returned (.bool true) ∧
      ∃ P', Hid (WalP w' B P' d f S1 (layF fu) v { l with broken := l.broken } ∧ (∀ k, P' k → P k ∨ w.heap.size ≤ k) ∧ Kept (fun k => P k ∨ k = v) w w')) := Lib.hid (fun wd hd => by
    rw [hA1, hG1, hS1]
    have hh := play_here hd (1 - l.area) (l.gen + 1) 1 _ t h hb hbig (by omega) (by omega) hl (by omega) rfl (by omega) (by omega) (by omega) hBw
    rw [hok] at hh
    exact hh)
  obtain ⟨S2, hS2⟩ : ∃ S, S = layS S1 (layF fu) ((1 - l.area) * s.half + 0) (secB (l.gen + 1) 0 headT s.size) := ⟨_, rfl⟩
  obtain ⟨k1, k2⟩ := layS_len s fu ((1 - l.area) * s.half + 1) (secB (l.gen + 1) 1 t s.size)
  have k3 := layS_half s fu ((1 - l.area) * s.half + 1) (secB (l.gen + 1) 1 t s.size)
  have k4 := layS_opn s fu ((1 - l.area) * s.half + 1) (secB (l.gen + 1) 1 t s.size)
  have k5 := layS_big fu ((1 - l.area) * s.half + 1) (secB (l.gen + 1) 1 t s.size) hbig
  have k6 := layF_count fu
  rw [← hS1] at k1 k2 k3 k4 k5
  have HL2 : Hid (∀ w2 P2, WalP w2 B P2 d f S1 (layF fu) v l → B ≤ w2.heap.size → Calls Try.prog 36 #[.pointer (some ⟨v, 0, none⟩), .int .i64 (A1 : Int), .int .i64 (G1 : Int), .int .i64 0, .string headT] w2 fun e w' => e = .returned (.bool true) ∧
      ∃ P', Hid (WalP w' B P' d f S2 (layF (layF fu)) v { l with broken := l.broken } ∧ (∀ k, P' k → P2 k ∨ w2.heap.size ≤ k) ∧ Kept (fun k => P2 k ∨ k = v) w2 w')) := Lib.hid (fun w2 P2 h2 hB2 => by
    rw [hA1, hG1, hS2]
    have hh := play_here (wd := w2) ⟨rfl, rfl, rfl, rfl⟩ (1 - l.area) (l.gen + 1) 0 ((1 - l.area) * s.half + 0) headT h2 hb k5 (by omega) (by omega) (by rw [k2, headT_size]; have := hbig.size; omega) (by omega) (by rw [k3]) (by rw [k1]; omega) (by omega) (by omega) hB2
    rw [hok2, k2] at hh
    exact hh)
  rw [← hS1, ← hS2]
  have eA : (1 : Int) - (A : Int) = (A1 : Int) := by omega
  have eA2 : IntKind.i64.wrap (A1 : Int) = (A1 : Int) := IntWalk.i64_in _ (by omega)
  have eG : (G : Int) + 1 = (G1 : Int) := by omega
  have eG2 : IntKind.i64.wrap (G1 : Int) = (G1 : Int) := IntWalk.i64_in _ (by omega)
  have e9 : ((G : Int) == 4294967295) = false := by simp; omega
  have hG0 : G < 4294967295 := by omega
  rw [← hA] at c1
  rw [← hG] at c2
  have HAE := Lib.hid hA1
  have HGE := Lib.hid hG1
  have HBW := Lib.hid hBw
  have HTH : Hid (headT = ⟨#[104, 101, 97, 100]⟩) := Lib.hid rfl
  clear h hb hbig hl hg ha hc hln hBw hok hA hG hA1 hG1 hS1 hf5 h2h hb4 hf2 hah hS2 k1 k2 k3 k4 k5 k6 hok2
  go_enter Try.func17, Try.ntmps17
  go_wp2_with fail
  refine HI.out.mono ?_
  rintro e w' ⟨rfl, rfl⟩
  go_wp2
  go_quiet (fail)
  go_wp2_with fail
  refine (HL.out _ ?_).mono ?_
  · exact ⟨rfl, rfl, rfl, rfl⟩
  rintro e w2 ⟨rfl, P2, H2⟩
  clear c1 c2 c4
  go_wp2_with fail
  refine (HL2.out w2 P2 H2.out.1 (Nat.le_trans HBW.out H2.out.2.2.size)).mono ?_
  rintro e w3 ⟨rfl, P3, H3⟩
  have HN : Hid (∀ k, P3 k → P k ∨ w.heap.size ≤ k) := Lib.hid (fun k hk => (H3.out.2.1 k hk).elim (H2.out.2.1 k) (fun h => .inr (Nat.le_trans H2.out.2.2.size h)))
  have HK : Hid (Kept (fun k => P k ∨ k = v) w w3) := Lib.hid (H2.out.2.2.trans H3.out.2.2 (fun k hk h => h.elim (fun h1 => (H2.out.2.1 k h1).elim .inl (fun h2 => absurd hk (by omega))) .inr))
  have HLG := Lib.hid H3.out.1
  have f1 := HLG.out.log.fr 1
  have f2 := HLG.out.log.fr 2
  have f3 := HLG.out.log.fr 3
  have g1 := HLG.out.log.c1
  have g2 := HLG.out.log.c2
  have g3 := HLG.out.log.c3
  go_wp2
  go_ret
  have h1 := HLG.out.log.set1 A1
  have h2 := h1.set2 G1
  have h3 := h2.set3 [t] 1 (by simp)
  refine ⟨rfl, P3, ⟨((HLG.out.dsk.beside HLG.out.pv 1 _).beside HLG.out.pv 2 _).beside HLG.out.pv 3 _, ?_, HLG.out.pv, HLG.out.bv⟩, HN.out, ((HK.out.setCell (fun _ => .inr rfl) _).setCell (fun _ => .inr rfl) _).setCell (fun _ => .inr rfl) _⟩
  rw [← HAE.out, ← HGE.out]
  exact h3

/-- The program's Checkpoint, all ways. -/
theorem pcheck_W (t : ByteArray) (hts : t.size ≤ maxLen) (h : WalP w B P d f s fu v l) (hbig : s.Big) (ha : l.area ≤ 1) (hgen : l.gen < 4294967296) (hc : fu.count < 800000) (hln : s.opn.length < 800000) (hBw : B ≤ w.heap.size) :
    Calls Try.prog 17 #[.pointer (some ⟨v, 0, none⟩), .string t] w fun e w' => e = .returned (.int .i64 (checkR s fu l t).1) ∧ ∃ P', WalP w' B P' d f (checkR s fu l t).2.1 (checkR s fu l t).2.2.1 v (checkR s fu l t).2.2.2 ∧ (∀ k, P' k → P k ∨ w.heap.size ≤ k) ∧ Kept (fun k => P k ∨ k = v) w w' := by
  have same : ∀ (c : Int), Calls Try.prog 17 #[.pointer (some ⟨v, 0, none⟩), .string t] w (fun e w' => e = .returned (.int .i64 c) ∧ Alike w' w) → Calls Try.prog 17 #[.pointer (some ⟨v, 0, none⟩), .string t] w fun e w' => e = .returned (.int .i64 c) ∧ ∃ P', WalP w' B P' d f s fu v l ∧ (∀ k, P' k → P k ∨ w.heap.size ≤ k) ∧ Kept (fun k => P k ∨ k = v) w w' := by
    intro c hcall
    refine hcall.mono ?_
    rintro e w' ⟨rfl, hA⟩
    exact ⟨rfl, P, h.alike hA, fun k hk => .inl hk, hA.kept⟩
  by_cases hb : l.broken = true
  · have e : checkR s fu l t = (2, s, fu, l) := by unfold checkR; rw [if_pos hb]
    rw [e]
    exact same 2 (pchk_broken t h hb)
  have hb' : l.broken = false := by simpa using hb
  by_cases hl : s.size < t.size + 14
  · have e : checkR s fu l t = (5, s, fu, l) := by unfold checkR; rw [if_neg hb, if_pos hl]
    rw [e]
    exact same 5 (pchk_long t hts h hb' hbig hl)
  by_cases hg : 4294967295 ≤ l.gen
  · have e : checkR s fu l t = (9, s, fu, l) := by unfold checkR; rw [if_neg hb, if_neg hl, if_pos hg]
    rw [e]
    exact same 9 (pchk_over t hts h hb' hbig (by omega) (by omega))
  cases hok : layOk fu with
  | false =>
    have e : checkR s fu l t = (2, layS s fu ((1 - l.area) * s.half + 1) (secB (l.gen + 1) 1 t s.size), layF fu, { l with broken := true }) := by unfold checkR; rw [if_neg hb, if_neg hl, if_neg hg, hok]; rfl
    rw [e]
    exact pchk_no1 t hts h hb' hbig (by omega) (by omega) ha hc hln hBw hok
  | true =>
    cases hok2 : layOk (layF fu) with
    | false =>
      have e : checkR s fu l t = (2, layS (layS s fu ((1 - l.area) * s.half + 1) (secB (l.gen + 1) 1 t s.size)) (layF fu) ((1 - l.area) * s.half + 0) (secB (l.gen + 1) 0 headT s.size), layF (layF fu), { l with broken := true }) := by unfold checkR; rw [if_neg hb, if_neg hl, if_neg hg, hok, hok2]; rfl
      rw [e]
      exact pchk_no2 t hts h hb' hbig (by omega) (by omega) ha hc hln hBw hok hok2
    | true =>
      have e : checkR s fu l t = (0, layS (layS s fu ((1 - l.area) * s.half + 1) (secB (l.gen + 1) 1 t s.size)) (layF fu) ((1 - l.area) * s.half + 0) (secB (l.gen + 1) 0 headT s.size), layF (layF fu), ⟨1 - l.area, l.gen + 1, [t], l.broken⟩) := by unfold checkR; rw [if_neg hb, if_neg hl, if_neg hg, hok, hok2]; rfl
      rw [e]
      exact pchk_ok t hts h hb' hbig (by omega) (by omega) ha hc hln hBw hok hok2
end Go.Proofs.Ytooikkjgcpngdaa
