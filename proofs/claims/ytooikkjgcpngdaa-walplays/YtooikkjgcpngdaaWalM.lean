/-
  Both logs, the program's and the document's, side by side.
-/
import Derived.Test.YtooikkjgcpngdaaWalRefK
import Derived.Test.YtooikkjgcpngdaaWalRefD
import Derived.Test.YtooikkjgcpngdaaWalL
import Derived.Test.YtooikkjgcpngdaaGreat
namespace Go.Proofs.Ytooikkjgcpngdaa
open Go.RowKit
open Fr (Rec secB valL lenV)

variable {P R U V : Nat → Prop} {w0 w w' : World} {B d f m g v v2 k A : Nat} {fu fu2 : Fu} {s s2 : Dk} {l l2 : Lg} {lv : Value} {blk : Obj}

theorem WalR.stays (h : WalR w B U m g s fu v l) (hs : w.heap.size ≤ w'.heap.size) (hb : ∀ k, U k → w'.heap[k]? = w.heap[k]?) : WalR w' B U m g s fu v l := by
  obtain ⟨R, V, lv, hD, hV, hdis, hRU, hVU, hU⟩ := h
  exact ⟨R, V, lv, hD.stays hs fun k hk => hb k (hRU k hk), hV.stays hs fun k hk => hb k (hVU k hk), hdis, hRU, hVU, fun k hk => ⟨(hU k hk).1, Nat.lt_of_lt_of_le (hU k hk).2 hs⟩⟩
theorem WalR.lt (h : WalR w B U m g s fu v l) : ∀ k, U k → B ≤ k ∧ k < w.heap.size := by
  obtain ⟨R, V, lv, hD, hV, hdis, hRU, hVU, hU⟩ := h
  exact hU
theorem apart_grow {P P' Q : Nat → Prop} {n : Nat} (hp : ∀ k, P' k → P k ∨ n ≤ k) (hQ : ∀ k, Q k → k < n) (h : ∀ k, P k → ¬ Q k) : ∀ k, P' k → ¬ Q k := fun k hk hq => by
  rcases hp k hk with h1 | h1
  · exact h k h1 hq
  · have := hQ k hq
    omega

/-- Both logs; a block A beside them. -/
structure Pair (w0 w : World) (P U : Nat → Prop) (d f m g v v2 A : Nat) (blk : Obj) (s s2 : Dk) (fu fu2 : Fu) (l l2 : Lg) : Prop where
  p : WalP w w0.heap.size P d f s fu v l
  r : WalR w w0.heap.size U m g s2 fu2 v2 l2
  ap : ∀ k, P k → ¬ U k
  av : ¬ U v
  bl : Below w0.heap.size w0 w
  ha : w.heap[A]? = some blk
  na : ¬ P A ∧ ¬ U A ∧ A ≠ v
/-- Both disks, and no log. -/
structure PairD (w0 w : World) (P R : Nat → Prop) (d f m g A : Nat) (blk : Obj) (s s2 : Dk) (fu fu2 : Fu) : Prop where
  p : Dsk w w0.heap.size P d f s fu
  r : DskR w w0.heap.size R m g s2 fu2
  ap : ∀ k, P k → ¬ R k
  bl : Below w0.heap.size w0 w
  ha : w.heap[A]? = some blk
  na : ¬ P A ∧ ¬ R A
theorem Pair.under (h : Pair w0 w P U d f m g v v2 A blk s s2 fu fu2 l l2) (hb : Below w.heap.size w w') : Pair w0 w' P U d f m g v v2 A blk s s2 fu fu2 l l2 :=
  ⟨h.p.under hb, h.r.stays hb.size fun k hk => hb.block k (h.r.lt k hk).2, h.ap, h.av, h.bl.trans (hb.mono h.bl.size), (hb.block A (lt_of_block h.ha)).trans h.ha, h.na⟩
theorem PairD.under (h : PairD w0 w P R d f m g A blk s s2 fu fu2) (hb : Below w.heap.size w w') : PairD w0 w' P R d f m g A blk s s2 fu fu2 :=
  ⟨h.p.under hb, h.r.under hb, h.ap, h.bl.trans (hb.mono h.bl.size), (hb.block A (lt_of_block h.ha)).trans h.ha, h.na⟩
theorem below_is (h : Alike w' w) : Below w.heap.size w w' := ⟨h.1, h.2.1, h.2.2.1, by rw [h.2.2.2]; exact Nat.le_refl _, fun k _ => by rw [h.2.2.2]⟩
theorem Pair.alike (h : Pair w0 w P U d f m g v v2 A blk s s2 fu fu2 l l2) (ha : Alike w' w) : Pair w0 w' P U d f m g v v2 A blk s s2 fu fu2 l l2 := h.under (below_is ha)
theorem PairD.alike (h : PairD w0 w P R d f m g A blk s s2 fu fu2) (ha : Alike w' w) : PairD w0 w' P R d f m g A blk s s2 fu fu2 := h.under (below_is ha)
theorem Pair.drew (h : Pair w0 w P U d f m g v v2 A blk s s2 fu fu2 l l2) : Pair w0 w.drew P U d f m g v v2 A blk s s2 fu fu2 l l2 := h.alike ⟨rfl, rfl, rfl, rfl⟩
theorem Pair.next (h : Pair w0 w P U d f m g v v2 A blk s s2 fu fu2 l l2) (o : Obj) : Pair w0 (w.alloc o) P U d f m g v v2 w.heap.size o s s2 fu fu2 l l2 := by
  have hb : Below w.heap.size w (w.alloc o) := (Below.refl _ _).alloc (Nat.le_refl _) _
  have h' := h.under hb
  exact ⟨h'.p, h'.r, h'.ap, h'.av, h'.bl, heap_alloc_new w o, fun hp => by have := (h.p.lt _ (.inl hp)).2; omega, fun hu => by have := (h.r.lt _ hu).2; omega, fun e => by have := (h.p.lt v (.inr rfl)).2; omega⟩
theorem PairD.next (h : PairD w0 w P R d f m g A blk s s2 fu fu2) (o : Obj) : PairD w0 (w.alloc o) P R d f m g w.heap.size o s s2 fu fu2 := by
  have hb : Below w.heap.size w (w.alloc o) := (Below.refl _ _).alloc (Nat.le_refl _) _
  have h' := h.under hb
  exact ⟨h'.p, h'.r, h'.ap, h'.bl, heap_alloc_new w o, fun hp => by have := (h.p.lt _ hp).2; omega, fun hu => by have := (h.r.lt _ hu).2; omega⟩
/-- The logs are let go. -/
theorem Pair.disks (h : Pair w0 w P U d f m g v v2 A blk s s2 fu fu2 l l2) : ∃ R, PairD w0 w P R d f m g A blk s s2 fu fu2 := by
  obtain ⟨R, V, lv, hD, hV, hdis, hRU, hVU, hU⟩ := h.r
  exact ⟨R, h.p.dsk, hD, fun k hk hr => h.ap k hk (hRU k hr), h.bl, h.ha, h.na.1, fun hr => h.na.2.1 (hRU _ hr)⟩

/-- The first log's call. -/
theorem Pair.first {P' : Nat → Prop} {s' : Dk} {fu' : Fu} {l' : Lg} (h : Pair w0 w P U d f m g v v2 A blk s s2 fu fu2 l l2) (h1 : WalP w' w0.heap.size P' d f s' fu' v l') (h2 : ∀ k, P' k → P k ∨ w.heap.size ≤ k) (h3 : Kept (fun k => P k ∨ k = v) w w') :
    Pair w0 w' P' U d f m g v v2 A blk s' s2 fu' fu2 l' l2 := by
  have hA := lt_of_block h.ha
  have hu : ∀ k, U k → w'.heap[k]? = w.heap[k]? := fun k hk => h3.block k (h.r.lt k hk).2 (fun e => e.elim (fun hp => h.ap k hp hk) (fun e => h.av (by rw [← e]; exact hk)))
  exact ⟨h1, h.r.stays h3.size hu, apart_grow h2 (fun k hk => (h.r.lt k hk).2) h.ap, h.av, h.bl.trans (h3.below (fun k hp => (h.p.lt k hp).1) h.bl.size), (h3.block A hA (fun e => e.elim h.na.1 h.na.2.2)).trans h.ha, fun hp => (h2 A hp).elim h.na.1 (fun h => by omega), h.na.2.1, h.na.2.2⟩
/-- The second log's call. -/
theorem Pair.second {U' : Nat → Prop} {s' : Dk} {fu' : Fu} {l' : Lg} (h : Pair w0 w P U d f m g v v2 A blk s s2 fu fu2 l l2) (h1 : WalR w' w0.heap.size U' m g s' fu' v2 l') (h3 : Kept U w w') (h2 : ∀ k, U' k → U k ∨ w.heap.size ≤ k) :
    Pair w0 w' P U' d f m g v v2 A blk s s' fu fu' l l' := by
  have hA := lt_of_block h.ha
  have hv := (h.p.lt v (.inr rfl)).2
  exact ⟨h.p.kept h3 (fun k hk hu => hk.elim (fun hp => h.ap k hp hu) (fun e => h.av (by rw [← e]; exact hu))), h1, fun k hp hu => apart_grow h2 (fun k hk => (h.p.lt k (.inl hk)).2) (fun k hu hp => h.ap k hp hu) k hu hp, fun hu => (h2 v hu).elim h.av (fun h => by omega), h.bl.trans (h3.below (fun k hp => (h.r.lt k hp).1) h.bl.size), (h3.block A hA h.na.2.1).trans h.ha, h.na.1, fun hu => (h2 A hu).elim h.na.2.1 (fun h => by omega), h.na.2.2⟩

theorem pair_app1 (t : ByteArray) (ht : t.size ≤ maxLen) (h : Pair w0 w P U d f m g v v2 A blk s s2 fu fu2 l l2) (hF : Fine s fu k) (hL : FineL s l) (hk : k ≤ 40) :
    Calls Try.prog 15 #[.pointer (some ⟨v, 0, none⟩), .string t] w fun e w' => e = .returned (.int .i64 (appendR s fu l t).1) ∧ ∃ P', Pair w0 w' P' U d f m g v v2 A blk (appendR s fu l t).2.1 s2 (appendR s fu l t).2.2.1 fu2 (appendR s fu l t).2.2.2 l2 := by
  have hx := hF.lt hk
  refine (pappend_W t ht h.p hF.big hL.len hL.area hL.gen (by omega) (by omega) h.bl.size).mono ?_
  rintro e w' ⟨rfl, P', h1, h2, h3⟩
  exact ⟨rfl, P', h.first h1 h2 h3⟩
theorem pair_app2 (t : ByteArray) (ht : t.size ≤ maxLen) (h : Pair w0 w P U d f m g v v2 A blk s s2 fu fu2 l l2) (hF : Fine s2 fu2 k) (hL : FineL s2 l2) (hk : k ≤ 40) :
    Calls Try.prog 16 #[.pointer (some ⟨v2, 0, none⟩), .string t] w fun e w' => e = .returned (.int .i64 (appendR s2 fu2 l2 t).1) ∧ ∃ U', Pair w0 w' P U' d f m g v v2 A blk s (appendR s2 fu2 l2 t).2.1 fu (appendR s2 fu2 l2 t).2.2.1 l (appendR s2 fu2 l2 t).2.2.2 := by
  have hx := hF.lt hk
  refine (mappend_W t ht h.r hF.big hL.len hL.area hL.gen (by omega) (by omega) h.bl.size).mono ?_
  rintro e w' ⟨rfl, U', h1, h2, h3⟩
  exact ⟨rfl, U', h.second h1 h2 h3⟩
theorem pair_chk1 (t : ByteArray) (ht : t.size ≤ maxLen) (h : Pair w0 w P U d f m g v v2 A blk s s2 fu fu2 l l2) (hF : Fine s fu k) (hL : FineL s l) (hk : k ≤ 40) :
    Calls Try.prog 17 #[.pointer (some ⟨v, 0, none⟩), .string t] w fun e w' => e = .returned (.int .i64 (checkR s fu l t).1) ∧ ∃ P', Pair w0 w' P' U d f m g v v2 A blk (checkR s fu l t).2.1 s2 (checkR s fu l t).2.2.1 fu2 (checkR s fu l t).2.2.2 l2 := by
  have hx := hF.lt hk
  refine (pcheck_W t ht h.p hF.big hL.area hL.gen (by omega) (by omega) h.bl.size).mono ?_
  rintro e w' ⟨rfl, P', h1, h2, h3⟩
  exact ⟨rfl, P', h.first h1 h2 h3⟩
theorem pair_chk2 (t : ByteArray) (ht : t.size ≤ maxLen) (h : Pair w0 w P U d f m g v v2 A blk s s2 fu fu2 l l2) (hF : Fine s2 fu2 k) (hL : FineL s2 l2) (hk : k ≤ 40) :
    Calls Try.prog 18 #[.pointer (some ⟨v2, 0, none⟩), .string t] w fun e w' => e = .returned (.int .i64 (checkR s2 fu2 l2 t).1) ∧ ∃ U', Pair w0 w' P U' d f m g v v2 A blk s (checkR s2 fu2 l2 t).2.1 fu (checkR s2 fu2 l2 t).2.2.1 l (checkR s2 fu2 l2 t).2.2.2 := by
  have hx := hF.lt hk
  refine (mcheck_W t ht h.r hF.big hL.area (by omega) (by omega) h.bl.size).mono ?_
  rintro e w' ⟨rfl, U', h1, h2, h3⟩
  exact ⟨rfl, U', h.second h1 h2 h3⟩

theorem only_kept {b : Nat} (h : Only b w w') : Kept (fun k => k = b) w w' := ⟨h.os, h.tape, h.output, Nat.le_of_eq h.size.symm, fun k _ hk => h.block k hk⟩
theorem pair_arm1 (n : Int) (hn : n ≤ 9223372036854775807) (h : Pair w0 w P U d f m g v v2 A blk s s2 fu fu2 l l2) :
    Calls Try.prog 19 #[.pointer (some ⟨f, 0, none⟩), .int .i64 n] w fun e w' => e = .returned (.tuple #[]) ∧ Pair w0 w' P U d f m g v v2 A blk s s2 (fu.arm n) fu2 l l2 := by
  refine (arm_any f n _ _ h.p.dsk.fz).mono ?_
  rintro e w' ⟨rfl, hz, ho⟩
  have hd := h.p.dsk.fuse (show Fz w' f 58 (fu.arm n) from hz) ho (h.p.dsk.fgood.arm n hn)
  have hv : v ≠ f := fun e => h.p.pv (by rw [e]; exact h.p.dsk.pd.2)
  exact ⟨rfl, h.first ⟨hd, (ho.block v hv).trans h.p.log, h.p.pv, h.p.bv⟩ (fun k hk => .inl hk) ⟨ho.os, ho.tape, ho.output, Nat.le_of_eq ho.size.symm, fun k _ hk => ho.block k (fun e => hk (.inl (by rw [e]; exact h.p.dsk.pd.2)))⟩⟩
theorem pair_arm2 (n : Int) (hn : n ≤ 9223372036854775807) (h : Pair w0 w P U d f m g v v2 A blk s s2 fu fu2 l l2) :
    Calls Try.prog 20 #[.pointer (some ⟨g, 0, none⟩), .int .i64 n] w fun e w' => e = .returned (.tuple #[]) ∧ Pair w0 w' P U d f m g v v2 A blk s s2 fu (fu2.arm n) l l2 := by
  obtain ⟨R, V, lv, hD, hV, hdis, hRU, hVU, hU⟩ := h.r
  refine (marm_R n hD.fz).mono ?_
  rintro e w' ⟨rfl, hz, ho⟩
  have hd := hD.fuse hz ho (hD.2.2.arm n hn)
  have hg := hD.rm.2
  have hs : w.heap.size ≤ w'.heap.size := Nat.le_of_eq ho.size.symm
  exact ⟨rfl, h.second ⟨R, V, lv, hd, hV.stays hs (fun k hk => ho.block k (fun e => hdis k (by rw [e]; exact hg) hk)), hdis, hRU, hVU, fun k hk => ⟨(hU k hk).1, Nat.lt_of_lt_of_le (hU k hk).2 hs⟩⟩ ⟨ho.os, ho.tape, ho.output, hs, fun k _ hk => ho.block k (fun e => hk (by rw [e]; exact hRU g hg))⟩ (fun k hk => .inl hk)⟩

theorem PairD.first {P' : Nat → Prop} {s' : Dk} {fu' : Fu} (h : PairD w0 w P R d f m g A blk s s2 fu fu2) (h1 : Dsk w' w0.heap.size P' d f s' fu') (h2 : ∀ k, P' k → P k ∨ w.heap.size ≤ k) (h3 : Kept P w w') : PairD w0 w' P' R d f m g A blk s' s2 fu' fu2 :=
  have hA := lt_of_block h.ha
  ⟨h1, h.r.kept h3 (fun k hr hp => h.ap k hp hr), apart_grow h2 (fun k hk => (h.r.lt k hk).2) h.ap, h.bl.trans (h3.below (fun k hp => (h.p.lt k hp).1) h.bl.size), (h3.block A hA h.na.1).trans h.ha, fun hp => (h2 A hp).elim h.na.1 (fun h => by omega), h.na.2⟩
theorem PairD.second {R' : Nat → Prop} {s' : Dk} {fu' : Fu} (h : PairD w0 w P R d f m g A blk s s2 fu fu2) (h1 : DskR w' w0.heap.size R' m g s' fu') (h2 : ∀ k, R' k → R k ∨ w.heap.size ≤ k) (h3 : Kept R w w') : PairD w0 w' P R' d f m g A blk s s' fu fu' :=
  have hA := lt_of_block h.ha
  ⟨h.p.kept h3 h.ap, h1, fun k hp hu => apart_grow h2 (fun k hk => (h.p.lt k hk).2) (fun k hu hp => h.ap k hp hu) k hu hp, h.bl.trans (h3.below (fun k hp => (h.r.lt k hp).1) h.bl.size), (h3.block A hA h.na.2).trans h.ha, h.na.1, fun hu => (h2 A hu).elim h.na.2 (fun h => by omega)⟩
theorem pd_arm1 (n : Int) (hn : n ≤ 9223372036854775807) (h : PairD w0 w P R d f m g A blk s s2 fu fu2) :
    Calls Try.prog 19 #[.pointer (some ⟨f, 0, none⟩), .int .i64 n] w fun e w' => e = .returned (.tuple #[]) ∧ PairD w0 w' P R d f m g A blk s s2 (fu.arm n) fu2 := by
  refine (arm_any f n _ _ h.p.fz).mono ?_
  rintro e w' ⟨rfl, hz, ho⟩
  exact ⟨rfl, h.first (h.p.fuse (show Fz w' f 58 (fu.arm n) from hz) ho (h.p.fgood.arm n hn)) (fun k hk => .inl hk) ⟨ho.os, ho.tape, ho.output, Nat.le_of_eq ho.size.symm, fun k _ hk => ho.block k (fun e => hk (by rw [e]; exact h.p.pd.2))⟩⟩
theorem pd_arm2 (n : Int) (hn : n ≤ 9223372036854775807) (h : PairD w0 w P R d f m g A blk s s2 fu fu2) :
    Calls Try.prog 20 #[.pointer (some ⟨g, 0, none⟩), .int .i64 n] w fun e w' => e = .returned (.tuple #[]) ∧ PairD w0 w' P R d f m g A blk s s2 fu (fu2.arm n) := by
  refine (marm_R n h.r.fz).mono ?_
  rintro e w' ⟨rfl, hz, ho⟩
  exact ⟨rfl, h.second (h.r.fuse hz ho (h.r.2.2.arm n hn)) (fun k hk => .inl hk) ⟨ho.os, ho.tape, ho.output, Nat.le_of_eq ho.size.symm, fun k _ hk => ho.block k (fun e => hk (by rw [e]; exact h.r.rm.2))⟩⟩
theorem pd_crash1 (keep : Nat) (t : Int) (hkp : keep < 18446744073709551616) (h : PairD w0 w P R d f m g A blk s s2 fu fu2) (hF : Fine s fu k) (hk : k ≤ 40) :
    Calls Try.prog 21 #[.pointer (some ⟨d, 0, none⟩), .int .u64 (keep : Int), .int .i64 t] w fun e w' => e = .returned (.tuple #[]) ∧ PairD w0 w' P R d f m g A blk (s.crash keep (cut t s.size)) s2 fu.reset fu2 := by
  have hx := hF.lt hk
  refine (crash_D keep t hkp h.p (by omega)).mono ?_
  rintro e w' ⟨rfl, h1, h2⟩
  exact ⟨rfl, h.first h1 (fun k hk => .inl hk) h2⟩
theorem pd_crash2 (keep : Nat) (t : Int) (hkp : keep < 18446744073709551616) (h : PairD w0 w P R d f m g A blk s s2 fu fu2) (hF : Fine s2 fu2 k) (hk : k ≤ 40) :
    Calls Try.prog 22 #[.pointer (some ⟨m, 0, none⟩), .int .u64 (keep : Int), .int .i64 t] w fun e w' => e = .returned (.tuple #[]) ∧ ∃ R', PairD w0 w' P R' d f m g A blk s (s2.crash keep (cut t s2.size)) fu fu2.reset := by
  have hx := hF.lt hk
  refine (mcrash_D keep t hkp h.r (by omega) h.bl.size).mono ?_
  rintro e w' ⟨rfl, R', h1, h2, h3⟩
  exact ⟨rfl, R', h.second h1 h3 h2⟩

/-- The program's disk is opened, the document's not yet. -/
structure Mid (w0 w : World) (P R : Nat → Prop) (d f m g v A : Nat) (blk : Obj) (s s2 : Dk) (fu fu2 : Fu) (l : Lg) (row : Value) : Prop where
  p : WalP w w0.heap.size P d f s fu v l
  r : DskR w w0.heap.size R m g s2 fu2
  ap : ∀ k, P k → ¬ R k
  av : ¬ R v
  bl : Below w0.heap.size w0 w
  ha : w.heap[A]? = some blk
  na : ¬ P A ∧ ¬ R A ∧ A ≠ v
  ow : w.ownsRow w0.heap.size 9 1 row l.list.length (strs l.list)
  nr : ∀ b, row.ownBlock = some b → ¬ R b
theorem own_lower {e : TypeId} {n size B' : Nat} {u : Value} {xs : List Value} (h : w.ownsRow B e size u n xs) (hB : B' ≤ B) : w.ownsRow B' e size u n xs :=
  ⟨h.1, h.2.imp id (fun ⟨g, cap, cur, hv, hb, rest⟩ => ⟨g, cap, cur, hv, Nat.le_trans hB hb, rest⟩)⟩
theorem pd_open1 (h : PairD w0 w P R d f m g A blk s s2 fu fu2) (hF : Fine s fu k) (hk : k ≤ 40) (ho : (openR s fu).2.2.2 = some l) :
    Calls Try.prog 13 #[.pointer (some ⟨d, 0, none⟩)] w fun e w' => ∃ P' v ra rc, e = .returned (.tuple #[.pointer (some ⟨v, 0, none⟩), .slice ra l.list.length rc, .int .i64 0]) ∧ Mid w0 w' P' R d f m g v A blk (openR s fu).2.1 s2 (openR s fu).2.2.1 fu2 l (.slice ra l.list.length rc) := by
  have hx := hF.lt hk
  have hA := lt_of_block h.ha
  refine (popen_W h.p hF.big (by omega) (by omega) h.bl.size).mono ?_
  intro e w' hp
  unfold OpenPost at hp
  rw [ho] at hp
  obtain ⟨P', v, ra, rc, he, h1, h2, h3, h4, h5, h6⟩ := hp
  have hD := h.first h1.dsk h4 h6
  refine ⟨P', v, ra, rc, he, h1, hD.r, hD.ap, fun hr => by have := (h.r.lt v hr).2; omega, hD.bl, hD.ha, ⟨hD.na.1, hD.na.2, fun e => by omega⟩, own_lower h2 h.bl.size, fun b hb hr => ?_⟩
  have := own_base h2 hb
  have := (h.r.lt b hr).2
  omega
theorem pd_open2 {row : Value} (h : Mid w0 w P R d f m g v A blk s s2 fu fu2 l row) (hF : Fine s2 fu2 k) (hk : k ≤ 40) (ho : (openR s2 fu2).2.2.2 = some l) :
    Calls Try.prog 14 #[.pointer (some ⟨m, 0, none⟩)] w fun e w' => ∃ U v2 la lc, e = .returned (.tuple #[.pointer (some ⟨v2, 0, none⟩), .int .i64 0]) ∧ Pair w0 w' P U d f m g v v2 A blk s (openR s2 fu2).2.1 fu (openR s2 fu2).2.2.1 l l ∧ w'.cell? ⟨v2, 3, none⟩ = some (.slice la l.list.length lc) ∧ Vals w' (.slice la l.list.length lc) (strs l.list) ∧ Vals w' row (strs l.list) := by
  have hx := hF.lt hk
  have hA := lt_of_block h.ha
  have hv := (h.p.lt v (.inr rfl)).2
  refine (mopen_W h.r hF.big (by omega) (by omega) h.bl.size).mono ?_
  intro e w' hp
  unfold OpenPostR at hp
  rw [ho] at hp
  obtain ⟨R', V', v2, lv, he, h1, h2, h3, h4, h5, h6⟩ := hp
  obtain ⟨la, lc, hc3, rfl⟩ := h2.shape
  refine ⟨fun k => R' k ∨ V' k, v2, la, lc, he, ⟨h.p.kept h6 (fun k hk hr => hk.elim (fun hp => h.ap k hp hr) (fun e => h.av (by rw [← e]; exact hr))), ⟨R', V', _, h1, h2, h3, fun k hk => .inl hk, fun k hk => .inr hk, fun k hk => hk.elim (h1.lt k) (h2.lt k)⟩, ?_, ?_, h.bl.trans (h6.below (fun k hp => (h.r.lt k hp).1) h.bl.size), (h6.block A hA h.na.2.1).trans h.ha, h.na.1, ?_, h.na.2.2⟩, hc3, Vals.of_own h2.ol, Vals.of_own (own_other h.ow fun b hb => h6.block b (own_lt h.ow hb) (h.nr b hb))⟩
  · intro k hp hu
    have := (h.p.lt k (.inl hp)).2
    rcases hu with hu | hu
    · rcases h4 k hu with h7 | h7
      · exact h.ap k hp h7
      · omega
    · have := h5 k hu
      omega
  · rintro (hu | hu)
    · rcases h4 v hu with h7 | h7
      · exact h.av h7
      · omega
    · have := h5 v hu
      omega
  · rintro (hu | hu)
    · rcases h4 A hu with h7 | h7
      · exact h.na.2.1 h7
      · omega
    · have := h5 A hu
      omega
theorem pd_open1n (h : PairD w0 w P R d f m g A blk s s2 fu fu2) (hF : Fine s fu k) (hk : k ≤ 40) (ho : (openR s fu).2.2.2 = none) :
    Calls Try.prog 13 #[.pointer (some ⟨d, 0, none⟩)] w fun e w' => e = .returned (.tuple #[.pointer none, .slice none 0 0, .int .i64 2]) ∧ ∃ P', PairD w0 w' P' R d f m g A blk (openR s fu).2.1 s2 (openR s fu).2.2.1 fu2 := by
  have hx := hF.lt hk
  refine (popen_W h.p hF.big (by omega) (by omega) h.bl.size).mono ?_
  intro e w' hp
  unfold OpenPost at hp
  rw [ho] at hp
  obtain ⟨he, P', h1, h2, h3⟩ := hp
  exact ⟨he, P', h.first h1 h2 h3⟩
theorem pd_open2n (h : PairD w0 w P R d f m g A blk s s2 fu fu2) (hF : Fine s2 fu2 k) (hk : k ≤ 40) (ho : (openR s2 fu2).2.2.2 = none) :
    Calls Try.prog 14 #[.pointer (some ⟨m, 0, none⟩)] w fun e w' => e = .returned (.tuple #[.pointer none, .int .i64 2]) ∧ ∃ R', PairD w0 w' P R' d f m g A blk s (openR s2 fu2).2.1 fu (openR s2 fu2).2.2.1 := by
  have hx := hF.lt hk
  refine (mopen_W h.r hF.big (by omega) (by omega) h.bl.size).mono ?_
  intro e w' hp
  unfold OpenPostR at hp
  rw [ho] at hp
  obtain ⟨he, R', h1, h2, h3⟩ := hp
  exact ⟨he, R', h.second h1 h2 h3⟩

theorem pair_room1 (h : Pair w0 w P U d f m g v v2 A blk s s2 fu fu2 l l2) (hL : FineL s l) : Calls Try.prog 24 #[.pointer (some ⟨v, 0, none⟩)] w fun e w' => e = .returned (.int .i64 ((s.half : Int) - 1 - (l.list.length : Int))) ∧ Alike w' w := by
  have hh := (Dk.half_le h.p.dsk.good).1
  have := hL.len
  refine (proom_any h.p (by omega)).mono ?_
  rintro e w' ⟨rfl, n, rfl⟩
  exact ⟨rfl, Alike.drewN w n⟩
theorem pair_room2 (h : Pair w0 w P U d f m g v v2 A blk s s2 fu fu2 l l2) (hL : FineL s2 l2) : Calls Try.prog 25 #[.pointer (some ⟨v2, 0, none⟩)] w fun e w' => e = .returned (.int .i64 ((s2.half : Int) - 1 - (l2.list.length : Int))) ∧ Alike w' w := by
  obtain ⟨R, V, lv, hD, hV, hdis, hRU, hVU, hU⟩ := h.r
  have hh : s2.half ≤ 512 := by have := hD.good.n1; unfold Dk.half; omega
  have := hL.len
  exact mroom_any hD hV (by omega)
theorem Pair.c2 (h : Pair w0 w P U d f m g v v2 A blk s s2 fu fu2 l l2) : w.cell? ⟨v2, 2, none⟩ = some (.int .i64 (l2.gen : Int)) := by
  obtain ⟨R, V, lv, hD, hV, hdis, hRU, hVU, hU⟩ := h.r
  exact hV.c2
theorem Pair.c4 (h : Pair w0 w P U d f m g v v2 A blk s s2 fu fu2 l l2) : w.cell? ⟨v2, 4, none⟩ = some (.bool l2.broken) := by
  obtain ⟨R, V, lv, hD, hV, hdis, hRU, hVU, hU⟩ := h.r
  exact hV.c4
/-- The state of a play: both logs, or no log. -/
def Play (w0 w : World) (d f m g k : Nat) (o1 o2 : Value) : Prop :=
  (∃ P U v v2 A blk s fu l, o1 = .pointer (some ⟨v, 0, none⟩) ∧ o2 = .pointer (some ⟨v2, 0, none⟩) ∧ Pair w0 w P U d f m g v v2 A blk s s fu fu l l ∧ Fine s fu k ∧ FineL s l) ∨
  (∃ P R A blk s fu, o1 = .pointer none ∧ o2 = .pointer none ∧ PairD w0 w P R d f m g A blk s s fu fu ∧ Fine s fu k)
theorem Play.below {o1 o2 : Value} (h : Play w0 w d f m g k o1 o2) : Below w0.heap.size w0 w := by
  rcases h with ⟨P, U, v, v2, A, blk, s, fu, l, _, _, h, _⟩ | ⟨P, R, A, blk, s, fu, _, _, h, _⟩
  · exact h.bl
  · exact h.bl
theorem Play.disks {o1 o2 : Value} (h : Play w0 w d f m g k o1 o2) : ∃ P R A blk s fu, PairD w0 w P R d f m g A blk s s fu fu ∧ Fine s fu k := by
  rcases h with ⟨P, U, v, v2, A, blk, s, fu, l, _, _, h, hF, _⟩ | ⟨P, R, A, blk, s, fu, _, _, h, hF⟩
  · obtain ⟨R, hD⟩ := h.disks
    exact ⟨P, R, A, blk, s, fu, hD, hF⟩
  · exact ⟨P, R, A, blk, s, fu, h, hF⟩
end Go.Proofs.Ytooikkjgcpngdaa
