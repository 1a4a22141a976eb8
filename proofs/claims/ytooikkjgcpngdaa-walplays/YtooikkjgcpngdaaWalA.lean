/-
  The program's own log: how it lies in memory; what is read of it.
-/
import Derived.Test.YtooikkjgcpngdaaWalLook
import Derived.Test.YtooikkjgcpngdaaDiskE
import Derived.Deep.RegionHeld3
import Derived.Deep.QuietTactic
namespace Go.Proofs.Ytooikkjgcpngdaa
open Go.RowKit
open Fr (Rec secB valL lenV)

variable {P Q : Nat → Prop} {w w' : World} {B d f v : Nat} {fu : Fu} {s : Dk} {l : Lg}

/-- The program's log v, of the disk d. -/
def InvW (w : World) (v d : Nat) (l : Lg) : Prop := w.heap[v]? = some (.cells #[.pointer (some ⟨d, 0, none⟩), .int .i64 (l.area : Int), .int .i64 (l.gen : Int), .int .i64 (l.list.length : Int), .bool l.broken] 70 (0, 0))
theorem InvW.c0 (h : InvW w v d l) : w.cell? ⟨v, 0, none⟩ = some (.pointer (some ⟨d, 0, none⟩)) := by rw [cell_of_row w v 0 _ _ _ h]; rfl
theorem InvW.c1 (h : InvW w v d l) : w.cell? ⟨v, 1, none⟩ = some (.int .i64 (l.area : Int)) := by rw [cell_of_row w v 1 _ _ _ h]; rfl
theorem InvW.c2 (h : InvW w v d l) : w.cell? ⟨v, 2, none⟩ = some (.int .i64 (l.gen : Int)) := by rw [cell_of_row w v 2 _ _ _ h]; rfl
theorem InvW.c3 (h : InvW w v d l) : w.cell? ⟨v, 3, none⟩ = some (.int .i64 (l.list.length : Int)) := by rw [cell_of_row w v 3 _ _ _ h]; rfl
theorem InvW.c4 (h : InvW w v d l) : w.cell? ⟨v, 4, none⟩ = some (.bool l.broken) := by rw [cell_of_row w v 4 _ _ _ h]; rfl
theorem InvW.fr (h : InvW w v d l) (i : Nat) : w.frozen? ⟨v, i, none⟩ = false := by
  unfold InvW at h
  simp [World.frozen?, h]
theorem InvW.lt (h : InvW w v d l) : v < w.heap.size := by
  rcases Nat.lt_or_ge v w.heap.size with h1 | h1
  · exact h1
  · unfold InvW at h
    simp [Array.getElem?_eq_none h1] at h
theorem InvW.set1 (h : InvW w v d l) (a : Nat) : InvW (w.setCell ⟨v, 1, none⟩ (.int .i64 (a : Int))) v d { l with area := a } := by
  unfold InvW at h ⊢
  simp [World.setCell, Array.getElem?_modify, h]
theorem InvW.set2 (h : InvW w v d l) (a : Nat) : InvW (w.setCell ⟨v, 2, none⟩ (.int .i64 (a : Int))) v d { l with gen := a } := by
  unfold InvW at h ⊢
  simp [World.setCell, Array.getElem?_modify, h]
theorem InvW.set3 (h : InvW w v d l) (L : List ByteArray) (n : Int) (hn : n = (L.length : Int)) : InvW (w.setCell ⟨v, 3, none⟩ (.int .i64 n)) v d { l with list := L } := by
  subst hn
  unfold InvW at h ⊢
  simp [World.setCell, Array.getElem?_modify, h]
theorem InvW.set4 (h : InvW w v d l) (b : Bool) : InvW (w.setCell ⟨v, 4, none⟩ (.bool b)) v d { l with broken := b } := by
  unfold InvW at h ⊢
  simp [World.setCell, Array.getElem?_modify, h]

/-- The program's log v on its disk d, of fuse f: P are the disk's blocks. -/
structure WalP (w : World) (B : Nat) (P : Nat → Prop) (d f : Nat) (s : Dk) (fu : Fu) (v : Nat) (l : Lg) : Prop where
  dsk : Dsk w B P d f s fu
  log : InvW w v d l
  pv : ¬ P v
  bv : B ≤ v
theorem Dsk.stays (h : Dsk w B P d f s fu) (hs : w.heap.size ≤ w'.heap.size) (hb : ∀ k, P k → w'.heap[k]? = w.heap[k]?) : Dsk w' B P d f s fu := by
  obtain ⟨⟨nb, lb, ov, h⟩, hg⟩ := h
  exact ⟨⟨nb, lb, ov, h.stays hs hb⟩, hg⟩
theorem WalP.stays (h : WalP w B P d f s fu v l) (hs : w.heap.size ≤ w'.heap.size) (hb : ∀ k, (P k ∨ k = v) → w'.heap[k]? = w.heap[k]?) : WalP w' B P d f s fu v l :=
  ⟨h.dsk.stays hs fun k hk => hb k (.inl hk), (hb v (.inr rfl)).trans h.log, h.pv, h.bv⟩
theorem WalP.lt (h : WalP w B P d f s fu v l) (k : Nat) (hk : P k ∨ k = v) : B ≤ k ∧ k < w.heap.size := by
  rcases hk with hk | rfl
  · exact h.dsk.lt k hk
  · exact ⟨h.bv, h.log.lt⟩
theorem WalP.kept (h : WalP w B P d f s fu v l) (hk : Kept Q w w') (hq : ∀ k, (P k ∨ k = v) → ¬ Q k) : WalP w' B P d f s fu v l :=
  h.stays hk.size fun k hp => hk.block k (h.lt k hp).2 (hq k hp)
theorem WalP.under (h : WalP w B P d f s fu v l) (hk : Below w.heap.size w w') : WalP w' B P d f s fu v l :=
  h.stays hk.size fun k hp => hk.block k (h.lt k hp).2
theorem WalP.alloc (h : WalP w B P d f s fu v l) (o : Obj) : WalP (w.alloc o) B P d f s fu v l :=
  h.stays (by simp) fun k hp => Below.heap_alloc w o k (h.lt k hp).2
theorem WalP.drew (h : WalP w B P d f s fu v l) : WalP w.drew B P d f s fu v l := h.stays (Nat.le_refl _) fun _ _ => rfl
theorem WalP.drewN (h : WalP w B P d f s fu v l) (n : Nat) : WalP (w.drewN n) B P d f s fu v l := h.stays (Nat.le_refl _) fun _ _ => rfl
/-- A store into the log's own block leaves the disk as it is. -/
theorem Dsk.beside (h : Dsk w B P d f s fu) (hv : ¬ P v) (i : Nat) (u : Value) : Dsk (w.setCell ⟨v, i, none⟩ u) B P d f s fu :=
  h.stays (by simp [World.setCell]) fun k hk => Below.heap_setCell w ⟨v, i, none⟩ _ k (fun e => hv (by have h1 : k = v := e; rw [← h1]; exact hk))
theorem Dk.half_le {s : Dk} (h : s.Good) : s.half ≤ 512 ∧ 2 * s.half ≤ s.now.length := by
  have := h.n1
  unfold Dk.half
  omega

theorem half_any (h : WalP w B P d f s fu v l) : Calls Try.prog 49 #[.pointer (some ⟨v, 0, none⟩)] w fun e w' => e = .returned (.int .i64 (s.half : Int)) ∧ w = w' := by
  have hn1 := h.dsk.good.n1
  have c0 := h.log.c0
  have HL := Lib.hid (len_D h.dsk)
  obtain ⟨n, hn⟩ : ∃ n, n = s.now.length := ⟨_, rfl⟩
  rw [← hn] at HL hn1
  have e1 : (n : Int) / 2 = (s.half : Int) := by rw [hn]; unfold Dk.half; omega
  obtain ⟨hf, hhf⟩ : ∃ hf, hf = s.half := ⟨_, rfl⟩
  rw [← hhf] at e1 ⊢
  clear hn hhf h
  go_enter Try.func49, Try.ntmps49
  go_wp2_with fail
  refine HL.out.mono ?_
  rintro e w' ⟨rfl, rfl⟩
  go_wp2
  go_ret
  exact ⟨rfl, rfl⟩
theorem half_q (h : WalP w B P d f s fu v l) (n : Nat) : Calls Try.prog 49 #[.pointer (some ⟨v, 0, none⟩)] (w.drewN n) fun e w'' => e = .returned (.int .i64 (s.half : Int)) ∧ ∃ k, w'' = w.drewN k :=
  Calls.quiet_of_same ((half_any (h.drewN n)).mono fun _ _ ⟨he, hw⟩ => ⟨he, hw.symm⟩)

theorem sector_any (area place i : Nat) (h : WalP w B P d f s fu v l) (ha : area ≤ 1) (hp : place ≤ 1024) (hi : i = area * s.half + place) : Calls Try.prog 56 #[.pointer (some ⟨v, 0, none⟩), .int .i64 (area : Int), .int .i64 (place : Int)] w fun e w' => e = .returned (.int .i64 (i : Int)) ∧ w = w' := by
  have hf5 := (Dk.half_le h.dsk.good).1
  have HH := Lib.hid (half_any h)
  obtain ⟨hf, hhf⟩ : ∃ hf, hf = s.half := ⟨_, rfl⟩
  rw [← hhf] at HH hi hf5
  clear hhf h
  obtain ⟨ah, hah⟩ : ∃ ah, ah = area * hf := ⟨_, rfl⟩
  have hah5 : ah ≤ 512 := by rcases (by omega : area = 0 ∨ area = 1) with e | e <;> rw [e] at hah <;> omega
  have hie : i = ah + place := by rw [hi, hah]
  have em : (area : Int) * (hf : Int) = (ah : Int) := by rw [hah]; exact (Int.natCast_mul area hf).symm
  have es : (ah : Int) + (place : Int) = (i : Int) := by omega
  clear hah hie hi
  go_enter Try.func56, Try.ntmps56
  go_wp2_with fail
  refine HH.out.mono ?_
  rintro e w' ⟨rfl, rfl⟩
  go_wp2
  go_ret
  exact ⟨rfl, rfl⟩
theorem sector_q (area place i : Nat) (h : WalP w B P d f s fu v l) (ha : area ≤ 1) (hp : place ≤ 1024) (hi : i = area * s.half + place) (n : Nat) : Calls Try.prog 56 #[.pointer (some ⟨v, 0, none⟩), .int .i64 (area : Int), .int .i64 (place : Int)] (w.drewN n) fun e w'' => e = .returned (.int .i64 (i : Int)) ∧ ∃ k, w'' = w.drewN k :=
  Calls.quiet_of_same ((sector_any area place i (h.drewN n) ha hp hi).mono fun _ _ ⟨he, hw⟩ => ⟨he, hw.symm⟩)

set_option maxHeartbeats 1000000 in
theorem proom_any (h : WalP w B P d f s fu v l) (hlen : l.list.length ≤ 512) : Calls Try.prog 24 #[.pointer (some ⟨v, 0, none⟩)] w fun e w' => e = .returned (.int .i64 ((s.half : Int) - 1 - (l.list.length : Int))) ∧ ∃ n, w' = w.drewN n := by
  have hf5 := (Dk.half_le h.dsk.good).1
  have HH := Lib.hid (fun n => half_q h n)
  have c3 := h.log.c3
  obtain ⟨hf, hhf⟩ : ∃ hf, hf = s.half := ⟨_, rfl⟩
  rw [← hhf] at HH hf5 ⊢
  obtain ⟨L, hL⟩ : ∃ L, L = l.list.length := ⟨_, rfl⟩
  rw [← hL] at c3 hlen ⊢
  have e1 : IntKind.i64.wrap ((hf : Int) - 1) = (hf : Int) - 1 := IntWalk.i64_in _ (by omega)
  have e2 : IntKind.i64.wrap ((hf : Int) - 1 - (L : Int)) = (hf : Int) - 1 - (L : Int) := IntWalk.i64_in _ (by omega)
  clear hhf h hL
  go_enter Try.func24, Try.ntmps24
  go_wp2
  go_quiet (first | (go_at_call 49; exact HH.out _))
  go_wp2
  go_ret
  exact ⟨rfl, _, rfl⟩
theorem gen_any (h : WalP w B P d f s fu v l) : Calls Try.prog 26 #[.pointer (some ⟨v, 0, none⟩)] w fun e w' => e = .returned (.int .i64 (l.gen : Int)) ∧ w = w' := by
  have c2 := h.log.c2
  clear h
  go_enter Try.func26, Try.ntmps26
  go_wp2
  go_ret
  exact ⟨rfl, rfl⟩
theorem broken_any (h : WalP w B P d f s fu v l) : Calls Try.prog 27 #[.pointer (some ⟨v, 0, none⟩)] w fun e w' => e = .returned (.bool l.broken) ∧ w = w' := by
  have c4 := h.log.c4
  clear h
  go_enter Try.func27, Try.ntmps27
  go_wp2
  go_ret
  exact ⟨rfl, rfl⟩
end Go.Proofs.Ytooikkjgcpngdaa
