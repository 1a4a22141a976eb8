/-
  Both routers with both fuses in one memory (Two), an act's block beside them (Pair), and what each call makes of that.
-/
import Derived.Test.YtjalmfomeehpgaaLift
import Derived.Test.YtjalmfomeehpgaaCliC
namespace Go.Proofs.Ytjalmfomeehpgaa
open Go.RowKit

theorem ne_type {W : World} {k j : Nat} {c d : Array Value} {t u : TypeId} (h1 : W.heap[k]? = some (.cells c t (0, 0))) (h2 : W.heap[j]? = some (.cells d u (0, 0))) (ht : t ≠ u) : k ≠ j := fun e => by
  rw [e, h2] at h1
  simp at h1
  exact ht h1.2.symm
/-- What is left alone: all below B, and every block that is no router's, no fuse's and no row of numbers. -/
structure Tn (B : Nat) (w w' : World) : Prop where
  os : w'.os = w.os
  tape : w'.tape = w.tape
  output : w'.output = w.output
  size : w.heap.size ≤ w'.heap.size
  low : ∀ k : Nat, k < B → w'.heap[k]? = w.heap[k]?
  kind : ∀ (k : Nat) (cur : Array Value) (t : TypeId), t ≠ 59 → t ≠ 57 → t ≠ 36 → t ≠ 27 → t ≠ 3 → w.heap[k]? = some (Obj.cells cur t (0, 0)) → w'.heap[k]? = some (Obj.cells cur t (0, 0))
theorem Tn.below {B : Nat} {a w w' : World} (h : Tn B w w') (hb : Below B a w) : Below B a w' :=
  ⟨h.os.trans hb.os, h.tape.trans hb.tape, h.output.trans hb.output, Nat.le_trans hb.size h.size, fun k hk => (h.low k hk).trans (hb.block k hk)⟩
/-- An act of its own in memory. -/
def ActB (W : World) (k : Nat) (kd nm sl gn : Int) (v : Value) : Prop := W.heap[k]? = some (.cells #[.int .i64 kd, .int .i64 nm, .int .i64 sl, .int .i64 gn, v] 38 (0, 0))
theorem ActB.lt {W : World} {k : Nat} {kd nm sl gn : Int} {v : Value} (h : ActB W k kd nm sl gn v) : k < W.heap.size := lt_of_block h
theorem ActB.c0 {W : World} {k : Nat} {kd nm sl gn : Int} {v : Value} (h : ActB W k kd nm sl gn v) : W.cell? ⟨k, 0, none⟩ = some (.int .i64 kd) := by rw [cell_of_row W k 0 _ _ _ h]; rfl
theorem ActB.c1 {W : World} {k : Nat} {kd nm sl gn : Int} {v : Value} (h : ActB W k kd nm sl gn v) : W.cell? ⟨k, 1, none⟩ = some (.int .i64 nm) := by rw [cell_of_row W k 1 _ _ _ h]; rfl
theorem ActB.c2 {W : World} {k : Nat} {kd nm sl gn : Int} {v : Value} (h : ActB W k kd nm sl gn v) : W.cell? ⟨k, 2, none⟩ = some (.int .i64 sl) := by rw [cell_of_row W k 2 _ _ _ h]; rfl
theorem ActB.c3 {W : World} {k : Nat} {kd nm sl gn : Int} {v : Value} (h : ActB W k kd nm sl gn v) : W.cell? ⟨k, 3, none⟩ = some (.int .i64 gn) := by rw [cell_of_row W k 3 _ _ _ h]; rfl
theorem ActB.c4 {W : World} {k : Nat} {kd nm sl gn : Int} {v : Value} (h : ActB W k kd nm sl gn v) : W.cell? ⟨k, 4, none⟩ = some v := by rw [cell_of_row W k 4 _ _ _ h]; rfl
theorem ActB.below {W W' : World} {k : Nat} {kd nm sl gn : Int} {v : Value} (h : ActB W k kd nm sl gn v) (hb : Below W.heap.size W W') : ActB W' k kd nm sl gn v := (hb.block k h.lt).trans h
theorem ActB.new (W : World) (kd nm sl gn : Int) (v : Value) : ActB (W.alloc (.cells #[.int .i64 kd, .int .i64 nm, .int .i64 sl, .int .i64 gn, v] 38)) W.heap.size kd nm sl gn v := heap_alloc_new W _
theorem ActB.tn {B : Nat} {W W' : World} {k : Nat} {kd nm sl gn : Int} {v : Value} (h : ActB W k kd nm sl gn v) (ht : Tn B W W') : ActB W' k kd nm sl gn v := ht.kind k _ 38 (by decide) (by decide) (by decide) (by decide) (by decide) h
theorem RoM.but {W W' : World} {b g : Nat} {v : Value} {s : Ro} (h : RoM W b g v s) (hb : W'.heap[b]? = W.heap[b]?) (hk : ∀ k, v.ownBlock = some k → W'.heap[k]? = W.heap[k]?) : RoM W' b g v s := ⟨hb.trans h.row, h.own.keep hk⟩
/-- Both sides: package router's and the document's. -/
structure Two' (W : World) (B b g bm gm : Nat) (vp vm : Value) (s1 : Ro) (f1 : Fu) (s2 : Ro) (f2 : Fu) : Prop where
  rp : RoP W b g vp s1
  rm : RoM W bm gm vm s2
  zp : Fz W g 57 f1
  zm : Fz W gm 27 f2
  lp : ∀ k, vp.ownBlock = some k → B ≤ k
  lm : ∀ k, vm.ownBlock = some k → B ≤ k
  ap : ∀ k, vp.ownBlock = some k → vm.ownBlock ≠ some k
  hb : B ≤ b
  hg : B ≤ g
  hbm : B ≤ bm
  hgm : B ≤ gm
def Two (W : World) (B b g bm gm : Nat) (s1 : Ro) (f1 : Fu) (s2 : Ro) (f2 : Fu) : Prop := ∃ vp vm, Two' W B b g bm gm vp vm s1 f1 s2 f2
section
variable {W W' : World} {B b g bm gm : Nat} {vp vm vp' vm' : Value} {s1 s1' s2 s2' : Ro} {f1 f1' f2 f2' : Fu}
theorem Two'.keep (h : Two' W B b g bm gm vp vm s1 f1 s2 f2) (hk : ∀ k, k < W.heap.size → W'.heap[k]? = W.heap[k]?) : Two' W' B b g bm gm vp vm s1 f1 s2 f2 :=
  ⟨h.rp.but (hk b (lt_of_block h.rp.row)) (fun k h' => hk k (h.rp.own.lt k h')), h.rm.but (hk bm (lt_of_block h.rm.row)) (fun k h' => hk k (h.rm.own.lt k h')), (hk g h.zp.lt).trans h.zp, (hk gm h.zm.lt).trans h.zm, h.lp, h.lm, h.ap, h.hb, h.hg, h.hbm, h.hgm⟩
theorem Two.keep (h : Two W B b g bm gm s1 f1 s2 f2) (hk : ∀ k, k < W.heap.size → W'.heap[k]? = W.heap[k]?) : Two W' B b g bm gm s1 f1 s2 f2 := by
  obtain ⟨vp, vm, h⟩ := h
  exact ⟨vp, vm, h.keep hk⟩
theorem Two'.sizeB (h : Two' W B b g bm gm vp vm s1 f1 s2 f2) : B ≤ W.heap.size := Nat.le_trans h.hg (Nat.le_of_lt h.zp.lt)
theorem Two'.first (h : Two' W B b g bm gm vp vm s1 f1 s2 f2) (hr : RoP W' b g vp' s1') (hn : New W vp vp') (hz : Fz W' g 57 f1') (ho : ButO b g vp W W') : Two' W' B b g bm gm vp' vm s1' f1' s2 f2 ∧ Tn B W W' := by
  have e1 : bm ≠ b := ne_type h.rm.row h.rp.row (by decide)
  have e2 : bm ≠ g := ne_type h.rm.row h.zp (by decide)
  have e3 : gm ≠ b := ne_type h.zm h.rp.row (by decide)
  have e4 : gm ≠ g := ne_type h.zm h.zp (by decide)
  have e5 : vp.ownBlock ≠ some bm := fun e => by
    obtain ⟨c, hc⟩ := h.rp.own.kind bm e
    exact ne_type hc h.rm.row (by decide) rfl
  have e6 : vp.ownBlock ≠ some gm := fun e => by
    obtain ⟨c, hc⟩ := h.rp.own.kind gm e
    exact ne_type hc h.zm (by decide) rfl
  refine ⟨⟨hr, h.rm.but (ho.block bm (lt_of_block h.rm.row) e1 e2 e5) (fun k hk => ?_), hz, (ho.block gm h.zm.lt e3 e4 e6).trans h.zm, fun k hk => ?_, h.lm, fun k hk hm => ?_, h.hb, h.hg, h.hbm, h.hgm⟩, ho.os, ho.tape, ho.output, ho.size, fun k hk => ho.block k (by have := lt_of_block h.rp.row; have := h.hb; omega) (by have := h.hb; omega) (by have := h.hg; omega) (fun e => by have := h.lp k e; omega), fun k cur t h1 h2 h3 h4 h5 h6 => (ho.block k (lt_of_block h6) (ne_type h6 h.rp.row h1) (ne_type h6 h.zp h2) (fun e => by
    obtain ⟨c, hc⟩ := h.rp.own.kind k e
    exact ne_type h6 hc h5 rfl)).trans h6⟩
  · obtain ⟨c, hc⟩ := h.rm.own.kind k hk
    exact ho.block k (h.rm.own.lt k hk) (ne_type hc h.rp.row (by decide)) (ne_type hc h.zp (by decide)) (fun e => h.ap k e hk)
  · rcases hn k hk with e | e
    · exact h.lp k e
    · have := h.sizeB; omega
  · rcases hn k hk with e | e
    · exact h.ap k e hm
    · have := h.rm.own.lt k hm; omega
theorem Two'.second (h : Two' W B b g bm gm vp vm s1 f1 s2 f2) (hr : RoM W' bm gm vm' s2') (hn : New W vm vm') (hz : Fz W' gm 27 f2') (ho : But bm gm W W') : Two' W' B b g bm gm vp vm' s1 f1 s2' f2' ∧ Tn B W W' := by
  have e1 : b ≠ bm := ne_type h.rp.row h.rm.row (by decide)
  have e2 : b ≠ gm := ne_type h.rp.row h.zm (by decide)
  have e3 : g ≠ bm := ne_type h.zp h.rm.row (by decide)
  have e4 : g ≠ gm := ne_type h.zp h.zm (by decide)
  refine ⟨⟨h.rp.but (ho.block b (lt_of_block h.rp.row) e1 e2) (fun k hk => ?_), hr, (ho.block g h.zp.lt e3 e4).trans h.zp, hz, h.lp, fun k hk => ?_, fun k hk hm => ?_, h.hb, h.hg, h.hbm, h.hgm⟩, ho.os, ho.tape, ho.output, ho.size, fun k hk => ho.block k (by have := lt_of_block h.rm.row; have := h.hbm; omega) (by have := h.hbm; omega) (by have := h.hgm; omega), fun k cur t h1 h2 h3 h4 h5 h6 => (ho.block k (lt_of_block h6) (ne_type h6 h.rm.row h3) (ne_type h6 h.zm h4)).trans h6⟩
  · obtain ⟨c, hc⟩ := h.rp.own.kind k hk
    exact ho.block k (h.rp.own.lt k hk) (ne_type hc h.rm.row (by decide)) (ne_type hc h.zm (by decide))
  · rcases hn k hk with e | e
    · exact h.lm k e
    · have := h.sizeB; omega
  · rcases hn k hm with e | e
    · exact h.ap k hk e
    · have := h.rp.own.lt k hk; omega
end
/-- Both sides and an act's block, behind the world w. -/
structure Pair (w W : World) (b g bm gm A : Nat) (kd nm sl gn : Int) (v : Value) (s1 : Ro) (f1 : Fu) (s2 : Ro) (f2 : Fu) : Prop where
  two : Two W w.heap.size b g bm gm s1 f1 s2 f2
  act : ActB W A kd nm sl gn v
  below : Below w.heap.size w W
section
variable {w W W' : World} {b g bm gm A : Nat} {kd nm sl gn : Int} {v : Value} {s1 s2 : Ro} {f1 f2 : Fu}
theorem Pair.keep (h : Pair w W b g bm gm A kd nm sl gn v s1 f1 s2 f2) (hb : Below W.heap.size W W') : Pair w W' b g bm gm A kd nm sl gn v s1 f1 s2 f2 :=
  ⟨h.two.keep hb.block, h.act.below hb, h.below.trans (hb.mono h.below.size)⟩
theorem Pair.drew (h : Pair w W b g bm gm A kd nm sl gn v s1 f1 s2 f2) : Pair w W.drew b g bm gm A kd nm sl gn v s1 f1 s2 f2 :=
  h.keep ⟨rfl, rfl, rfl, Nat.le_refl _, fun _ _ => rfl⟩
theorem Pair.drewN (h : Pair w W b g bm gm A kd nm sl gn v s1 f1 s2 f2) (n : Nat) : Pair w (W.drewN n) b g bm gm A kd nm sl gn v s1 f1 s2 f2 :=
  h.keep ⟨rfl, by simp, rfl, by simp, fun _ _ => by simp⟩
theorem pair_first {s1' : Ro} {f1' : Fu} {vp vp' vm : Value} (h : Two' W w.heap.size b g bm gm vp vm s1 f1 s2 f2) (ha : ActB W A kd nm sl gn v) (hb : Below w.heap.size w W) (hr : RoP W' b g vp' s1') (hn : New W vp vp') (hz : Fz W' g 57 f1') (ho : ButO b g vp W W') : Pair w W' b g bm gm A kd nm sl gn v s1' f1' s2 f2 := by
  obtain ⟨h2, ht⟩ := h.first hr hn hz ho
  exact ⟨⟨_, _, h2⟩, ha.tn ht, ht.below hb⟩
theorem pair_second {s2' : Ro} {f2' : Fu} {vp vm vm' : Value} (h : Two' W w.heap.size b g bm gm vp vm s1 f1 s2 f2) (ha : ActB W A kd nm sl gn v) (hb : Below w.heap.size w W) (hr : RoM W' bm gm vm' s2') (hn : New W vm vm') (hz : Fz W' gm 27 f2') (ho : But bm gm W W') : Pair w W' b g bm gm A kd nm sl gn v s1 f1 s2' f2' := by
  obtain ⟨h2, ht⟩ := h.second hr hn hz ho
  exact ⟨⟨_, _, h2⟩, ha.tn ht, ht.below hb⟩
theorem pair_call1 (p q : Int) (h : Pair w W b g bm gm A kd nm sl gn v s1 f1 s2 f2) (hf : Fine f1) (hwr : 0 ≤ s1.writes ∧ s1.writes ≤ 1000000) : Calls Try.prog 22 #[.pointer (some ⟨b, 0, none⟩), .int .i64 p, .int .i64 q] W fun e w' => e = .returned (.int .i64 (toldC s1 f1 p q)) ∧ Pair w w' b g bm gm A kd nm sl gn v (leftC s1 f1 p q) (fuseC f1 p q) s2 f2 := by
  obtain ⟨⟨vp, vm, h2⟩, ha, hb⟩ := h
  exact (pcall_any b g s1 f1 p q vp W h2.rp h2.zp (ne_type h2.rp.row h2.zp (by decide)) hf hwr).mono fun e w' ⟨he, ⟨v', hr, hn⟩, hz, ho⟩ => ⟨he, pair_first h2 ha hb hr hn hz (.of_but ho)⟩
theorem pair_call2 (p q : Int) (h : Pair w W b g bm gm A kd nm sl gn v s1 f1 s2 f2) (hf : Fine f2) (hwr : 0 ≤ s2.writes ∧ s2.writes ≤ 1000000) (hl : s2.outs.length ≤ 100000) : Calls Try.prog 24 #[.pointer (some ⟨bm, 0, none⟩), .int .i64 p, .int .i64 q] W fun e w' => e = .returned (.int .i64 (toldC s2 f2 p q)) ∧ Pair w w' b g bm gm A kd nm sl gn v s1 f1 (leftC s2 f2 p q) (fuseC f2 p q) := by
  obtain ⟨⟨vp, vm, h2⟩, ha, hb⟩ := h
  exact (mcall_any bm gm s2 f2 p q vm W h2.rm h2.zm (ne_type h2.rm.row h2.zm (by decide)) hf hwr hl).mono fun e w' ⟨he, ⟨v', hr, hn⟩, hz, ho⟩ => ⟨he, pair_second h2 ha hb hr hn hz ho⟩
theorem pair_script1 (l : Value) (xs : List Int) (h : Pair w W b g bm gm A kd nm sl gn v s1 f1 s2 f2) (hl : IntsI W l xs) (hn : s1.outs.length + xs.length ≤ 100000000) : Calls Try.prog 12 #[.pointer (some ⟨b, 0, none⟩), l] W fun e w' => e = .returned (.tuple #[]) ∧ Pair w w' b g bm gm A kd nm sl gn v { s1 with outs := s1.outs ++ xs } f1 s2 f2 := by
  obtain ⟨⟨vp, vm, h2⟩, ha, hb⟩ := h
  refine (pscript_any b g s1 l xs vp W h2.rp hl hn).mono fun e w' ⟨he, ⟨v', hr, hn⟩, ho⟩ => ⟨he, pair_first h2 ha hb hr hn ?_ ho.wide⟩
  exact (ho.block g h2.zp.lt (ne_type h2.zp h2.rp.row (by decide)) (ne_type h2.zp h2.rp.row (by decide)) (h2.rp.ng h2.zp (by decide))).trans h2.zp
theorem pair_script2 (l : Value) (xs : List Int) (h : Pair w W b g bm gm A kd nm sl gn v s1 f1 s2 f2) (hl : IntsI W l xs) (hn : s2.outs.length + xs.length ≤ 100000000) : Calls Try.prog 13 #[.pointer (some ⟨bm, 0, none⟩), l] W fun e w' => e = .returned (.tuple #[]) ∧ Pair w w' b g bm gm A kd nm sl gn v s1 f1 { s2 with outs := s2.outs ++ xs } f2 := by
  obtain ⟨⟨vp, vm, h2⟩, ha, hb⟩ := h
  refine (mscript_any bm gm s2 l xs vm W h2.rm hl hn).mono fun e w' ⟨he, ⟨v', hr, hn⟩, ho⟩ => ⟨he, pair_second h2 ha hb hr hn ?_ ho.wide⟩
  exact (ho.block gm h2.zm.lt (ne_type h2.zm h2.rm.row (by decide)) (ne_type h2.zm h2.rm.row (by decide))).trans h2.zm
theorem pair_arm1 (n : Int) (h : Pair w W b g bm gm A kd nm sl gn v s1 f1 s2 f2) : Calls Try.prog 14 #[.pointer (some ⟨g, 0, none⟩), .int .i64 n] W fun e w' => e = .returned (.tuple #[]) ∧ Pair w w' b g bm gm A kd nm sl gn v s1 ⟨true, max n 0, false, f1.count⟩ s2 f2 := by
  obtain ⟨⟨vp, vm, h2⟩, ha, hb⟩ := h
  exact (arm_any g n f1 W h2.zp).mono fun e w' ⟨he, hz, ho⟩ => ⟨he, pair_first h2 ha hb (h2.rp.only h2.zp (ne_type h2.rp.row h2.zp (by decide)) ho) (fun _ h => .inl h) hz (.of_but (.only ho))⟩
theorem RoM.only {b' g' : Nat} {v' : Value} {s : Ro} {f : Fu} (h : RoM W b' g' v' s) (hf : Fz W g' 27 f) (ho : Only g' W W') : RoM W' b' g' v' s :=
  h.but (ho.block b' (ne_type h.row hf (by decide))) (fun k hk => ho.block k (by
    obtain ⟨c, hc⟩ := h.own.kind k hk
    exact ne_type hc hf (by decide)))
theorem pair_arm2 (n : Int) (h : Pair w W b g bm gm A kd nm sl gn v s1 f1 s2 f2) : Calls Try.prog 15 #[.pointer (some ⟨gm, 0, none⟩), .int .i64 n] W fun e w' => e = .returned (.tuple #[]) ∧ Pair w w' b g bm gm A kd nm sl gn v s1 f1 s2 ⟨true, max n 0, false, f2.count⟩ := by
  obtain ⟨⟨vp, vm, h2⟩, ha, hb⟩ := h
  exact (marm_any gm n f2 W h2.zm).mono fun e w' ⟨he, hz, ho⟩ => ⟨he, pair_second h2 ha hb (h2.rm.only h2.zm ho) (fun _ h => .inl h) hz (.only ho)⟩
theorem pair_reset1 (h : Pair w W b g bm gm A kd nm sl gn v s1 f1 s2 f2) : Calls Try.prog 16 #[.pointer (some ⟨g, 0, none⟩)] W fun e w' => e = .returned (.tuple #[]) ∧ Pair w w' b g bm gm A kd nm sl gn v s1 ⟨false, 0, false, f1.count⟩ s2 f2 := by
  obtain ⟨⟨vp, vm, h2⟩, ha, hb⟩ := h
  exact (reset_any g f1 W h2.zp).mono fun e w' ⟨he, hz, ho⟩ => ⟨he, pair_first h2 ha hb (h2.rp.only h2.zp (ne_type h2.rp.row h2.zp (by decide)) ho) (fun _ h => .inl h) hz (.of_but (.only ho))⟩
theorem pair_reset2 (h : Pair w W b g bm gm A kd nm sl gn v s1 f1 s2 f2) : Calls Try.prog 17 #[.pointer (some ⟨gm, 0, none⟩)] W fun e w' => e = .returned (.tuple #[]) ∧ Pair w w' b g bm gm A kd nm sl gn v s1 f1 s2 ⟨false, f2.left, false, f2.count⟩ := by
  obtain ⟨⟨vp, vm, h2⟩, ha, hb⟩ := h
  exact (mreset_any gm f2 W h2.zm).mono fun e w' ⟨he, hz, ho⟩ => ⟨he, pair_second h2 ha hb (h2.rm.only h2.zm ho) (fun _ h => .inl h) hz (.only ho)⟩
theorem pair_cell (h : Pair w W b g bm gm A kd nm sl gn v s1 f1 s2 f2) : Calls Try.prog 18 #[.pointer (some ⟨b, 0, none⟩)] W fun e w' => e = .returned (.agg #[.int .i64 s1.slot, .int .i64 s1.gen]) ∧ Pair w w' b g bm gm A kd nm sl gn v s1 f1 s2 f2 := by
  have h0 := h
  obtain ⟨⟨vp, vm, h2⟩, ha, hb⟩ := h
  exact (pcell_any b g s1 vp W h2.rp).mono fun e w' ⟨he, hb', _⟩ => ⟨he, h0.keep hb'⟩
theorem pair_writes (h : Pair w W b g bm gm A kd nm sl gn v s1 f1 s2 f2) : Calls Try.prog 19 #[.pointer (some ⟨b, 0, none⟩)] W fun e w' => e = .returned (.int .i64 s1.writes) ∧ W = w' := by
  obtain ⟨⟨vp, vm, h2⟩, ha, hb⟩ := h
  exact pwrites_any b g s1 vp W h2.rp
theorem pair_count (h : Pair w W b g bm gm A kd nm sl gn v s1 f1 s2 f2) : Calls Try.prog 20 #[.pointer (some ⟨g, 0, none⟩)] W fun e w' => e = .returned (.int .i64 f1.count) ∧ W = w' := by
  obtain ⟨⟨vp, vm, h2⟩, ha, hb⟩ := h
  exact count_any g f1 W h2.zp
theorem Pair.seen (h : Pair w W b g bm gm A kd nm sl gn v s1 f1 s2 f2) : W.cell? ⟨bm, 0, none⟩ = some (.int .i64 s2.slot) ∧ W.cell? ⟨bm, 1, none⟩ = some (.int .i64 s2.gen) ∧ W.cell? ⟨bm, 3, none⟩ = some (.int .i64 s2.writes) ∧ W.cell? ⟨gm, 3, none⟩ = some (.int .i64 f2.count) := by
  obtain ⟨⟨vp, vm, h2⟩, _, _⟩ := h
  exact ⟨by rw [cell_of_row W bm 0 _ _ _ h2.rm.row]; rfl, by rw [cell_of_row W bm 1 _ _ _ h2.rm.row]; rfl, by rw [cell_of_row W bm 3 _ _ _ h2.rm.row]; rfl, h2.zm.c3⟩
end
section
variable {w W W' : World} {b g bm gm A : Nat} {kd nm sl gn : Int} {v : Value} {s1 s2 : Ro} {f1 f2 : Fu}
theorem pair_calls1 (p q : Int) : CallsAs 22 b p q (fun s f W => Pair w W b g bm gm A kd nm sl gn v s f s2 f2) where
  keep := fun s f W W' h hb => h.keep hb
  call := fun s f n W h hd hn => by
    obtain ⟨⟨vp, vm, h2⟩, ha, hb⟩ := h
    exact (pcall_any b g s f p q vp W h2.rp h2.zp (ne_type h2.rp.row h2.zp (by decide)) (hd.fine (by omega)) (hd.wr (by omega))).mono fun e w' ⟨he, ⟨v', hr, hn'⟩, hz, ho⟩ => ⟨he, pair_first h2 ha hb hr hn' hz (.of_but ho), fun k cur hc => (h2.first hr hn' hz (.of_but ho)).2.kind k cur 33 (by decide) (by decide) (by decide) (by decide) (by decide) hc⟩
theorem pair_calls2 (p q : Int) : CallsAs 24 bm p q (fun s f W => Pair w W b g bm gm A kd nm sl gn v s1 f1 s f) where
  keep := fun s f W W' h hb => h.keep hb
  call := fun s f n W h hd hn => by
    obtain ⟨⟨vp, vm, h2⟩, ha, hb⟩ := h
    exact (mcall_any bm gm s f p q vm W h2.rm h2.zm (ne_type h2.rm.row h2.zm (by decide)) (hd.fine (by omega)) (hd.wr (by omega)) (by have := hd.outs; omega)).mono fun e w' ⟨he, ⟨v', hr, hn'⟩, hz, ho⟩ => ⟨he, pair_second h2 ha hb hr hn' hz ho, fun k cur hc => (h2.second hr hn' hz ho).2.kind k cur 33 (by decide) (by decide) (by decide) (by decide) (by decide) hc⟩
theorem pair_set1 (p q tr : Int) (n : Nat) (h : Pair w W b g bm gm A kd nm sl gn v s1 f1 s2 f2) (hd : Bd n s1 f1) (hn : n + 8 < 1000) :
    Calls Try.prog 10 #[.pointer (some ⟨b, 0, none⟩), .agg #[.int .i64 q, .int .i64 p], .int .i64 tr] W fun e w' => ∃ j, SetJ p q s1 f1 (triesC tr) j ∧ e = .returned (.tuple #[.int .i64 (last p q s1 f1 j), .int .i64 (j : Int)]) ∧ Pair w w' b g bm gm A kd nm sl gn v (st p q s1 f1 j).1 (st p q s1 f1 j).2 s2 f2 :=
  set_any b p q tr _ (pair_calls1 p q) n s1 f1 W h hd hn
theorem pair_set2 (p q tr : Int) (n j : Nat) (h : Pair w W b g bm gm A kd nm sl gn v s1 f1 s2 f2) (hd : Bd n s2 f2) (hn : n + 8 < 1000) (hj : SetJ p q s2 f2 (triesC tr) j) :
    Calls Try.prog 11 #[.pointer (some ⟨bm, 0, none⟩), .agg #[.int .i64 q, .int .i64 p], .int .i64 tr] W fun e w' => e = .returned (.tuple #[.int .i64 (last p q s2 f2 j), .int .i64 (j : Int)]) ∧ Pair w w' b g bm gm A kd nm sl gn v s1 f1 (st p q s2 f2 j).1 (st p q s2 f2 j).2 :=
  (mset_any bm p q tr _ (pair_calls2 p q) n s2 f2 W h hd hn).mono fun e w' ⟨i, hi, he, hp⟩ => by
    obtain rfl := hi.uniq hj
    exact ⟨he, hp⟩
end
/-- Two fuses that bear the same. -/
structure Al (f1 f2 : Fu) : Prop where
  armed : f1.armed = f2.armed
  blown : f1.blown = f2.blown
  count : f1.count = f2.count
  left : f1.armed = true → f1.left = f2.left
theorem Al.bears {f1 f2 : Fu} (h : Al f1 f2) : bears f1 = bears f2 := by
  unfold Go.Proofs.Ytjalmfomeehpgaa.bears
  rw [← h.armed]
  cases ha : f1.armed with
  | false => rfl
  | true => rw [h.left ha]
theorem Al.told {f1 f2 : Fu} (h : Al f1 f2) (s : Ro) (p q : Int) : toldC s f2 p q = toldC s f1 p q ∧ leftC s f2 p q = leftC s f1 p q := by
  unfold toldC leftC
  rw [h.bears]
  exact ⟨rfl, rfl⟩
theorem Al.fuse {f1 f2 : Fu} (h : Al f1 f2) (p q : Int) : Al (fuseC f1 p q) (fuseC f2 p q) := by
  unfold fuseC
  by_cases hr : inRange p q
  · rw [if_pos hr, if_pos hr]
    unfold spent
    rw [h.bears]
    by_cases hb : Go.Proofs.Ytjalmfomeehpgaa.bears f2 = true
    · rw [if_pos hb, if_pos hb]
      refine ⟨h.armed, h.blown, by rw [h.count], fun ha => ?_⟩
      simp only at ha ⊢
      rw [if_pos ha, if_pos (h.armed ▸ ha), h.left ha]
    · rw [if_neg hb, if_neg hb]
      exact ⟨h.armed, rfl, h.count, h.left⟩
  · rw [if_neg hr, if_neg hr]
    exact h
theorem Al.st {f1 f2 : Fu} (h : Al f1 f2) (p q : Int) (s : Ro) : ∀ i, (st p q s f2 i).1 = (st p q s f1 i).1 ∧ Al (st p q s f1 i).2 (st p q s f2 i).2
  | 0 => ⟨rfl, h⟩
  | i + 1 => by
    obtain ⟨a, b⟩ := h.st p q s i
    exact ⟨by show leftC _ _ _ _ = leftC _ _ _ _; rw [a, (b.told _ p q).2], b.fuse p q⟩
theorem Al.last {f1 f2 : Fu} (h : Al f1 f2) (p q : Int) (s : Ro) : ∀ i, last p q s f2 i = last p q s f1 i
  | 0 => rfl
  | i + 1 => by
    obtain ⟨a, b⟩ := h.st p q s i
    show toldC _ _ _ _ = toldC _ _ _ _
    rw [a, (b.told _ p q).1]
theorem Al.setJ {f1 f2 : Fu} {p q M : Int} {s : Ro} {j : Nat} (h : Al f1 f2) (hj : SetJ p q s f1 M j) : SetJ p q s f2 M j :=
  ⟨hj.pos, hj.le, fun i hi => by rw [h.last]; exact hj.ahead i hi, by rw [h.last]; exact hj.fin⟩
end Go.Proofs.Ytjalmfomeehpgaa
