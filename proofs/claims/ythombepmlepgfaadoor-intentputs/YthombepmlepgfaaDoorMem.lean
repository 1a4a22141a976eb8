/-
  Lists of ints, and rows of bytes, in memory.
-/
import Derived.Test.YthombepmlepgfaaDoorFirst
import Derived.Deep.AppendLies
import Derived.Laws.AppendOwnNone
import Derived.Laws.BytesString
import Derived.OwnWalk
import Derived.OneCell
import Derived.WalkSpells
import Derived.Deep.RegionHeld3
namespace Go.Proofs.YthombepmlepgfaaDoor
open Go.RowKit

/-- The slice v reads as the values xs. -/
def Vals (w : World) (v : Value) (xs : List Value) : Prop :=
  (v = .slice none 0 0 ∧ xs = []) ∨
  ∃ a c, v = .slice (some a) xs.length c ∧ xs.length ≤ c ∧ (0 < xs.length → a.block < w.heap.size) ∧ ∀ k u, xs[k]? = some u → w.cell? (a.add k) = some u

variable {w w' : World} {v : Value} {xs : List Value}
theorem add_block (a : Addr) (n : Nat) : (a.add n).block = a.block := by unfold Addr.add; split <;> rfl
theorem Vals.keep (h : Vals w v xs) (hs : w.heap.size ≤ w'.heap.size) (hk : ∀ p : Addr, p.block < w.heap.size → w'.cell? p = w.cell? p) : Vals w' v xs := by
  rcases h with h | ⟨a, c, hv, hc, hb, hx⟩
  · exact .inl h
  · refine .inr ⟨a, c, hv, hc, fun h0 => Nat.lt_of_lt_of_le (hb h0) hs, fun k u hu => (hk _ ?_).trans (hx k u hu)⟩
    have : k < xs.length := (List.getElem?_eq_some_iff.1 hu).1
    rw [add_block]
    exact hb (by omega)
theorem Vals.under (h : Vals w v xs) (hb : Below w.heap.size w w') : Vals w' v xs := h.keep hb.size fun _ hp => hb.cell hp
theorem Vals.drewN (h : Vals w v xs) (n : Nat) : Vals (w.drewN n) v xs := h
theorem Vals.slice (h : Vals w v xs) : ∃ A c, v = .slice A xs.length c := by
  rcases h with ⟨rfl, rfl⟩ | ⟨a, c, rfl, _⟩
  · exact ⟨_, _, rfl⟩
  · exact ⟨_, _, rfl⟩
theorem Vals.full (h : Vals w v xs) (hn : 0 < xs.length) : ∃ b off c, v = .slice (some ⟨b, off, none⟩) xs.length c ∧ xs.length ≤ c ∧ b < w.heap.size ∧ ∀ k u, xs[k]? = some u → w.cell? ⟨b, off + k, none⟩ = some u := by
  rcases h with ⟨_, rfl⟩ | ⟨⟨b, off, spot⟩, c, hv, hc, hb, hx⟩
  · simp at hn
  · have hspot : spot = none := by simpa [Addr.add] using World.cell?_spot (hx 0 xs[0] (List.getElem?_eq_getElem hn))
    subst hspot
    have hadd : ∀ i, (⟨b, off, none⟩ : Addr).add i = ⟨b, off + i, none⟩ := fun i => by unfold Addr.add; split <;> simp_all
    exact ⟨b, off, c, hv, hc, hb hn, fun k u hu => by rw [← hadd k]; exact hx k u hu⟩
theorem lt_of_block {g : Nat} {o : Obj} (h : w.heap[g]? = some o) : g < w.heap.size := by
  rcases Nat.lt_or_ge g w.heap.size with hlt | hge
  · exact hlt
  · rw [Array.getElem?_eq_none hge] at h; cases h
/-- A row that the call made, whole, reads as what it holds. -/
theorem Vals.of_own {B n : Nat} {e : TypeId} (h : w.ownsRow B e 1 v n xs) : Vals w v xs := by
  obtain ⟨h1, h2⟩ := h
  rw [Nat.mul_one] at h1
  subst h1
  rcases h2 with ⟨hv, hn⟩ | ⟨g, cap, cur, hv, hg, hh, hn, hc, hs, ht⟩
  · exact .inl ⟨hv, List.eq_nil_of_length_eq_zero hn⟩
  · refine .inr ⟨⟨g, 0, none⟩, cap, hv, hn, fun _ => lt_of_block hh, fun k u hu => ?_⟩
    have hadd : (⟨g, 0, none⟩ : Addr).add k = ⟨g, k, none⟩ := by unfold Addr.add; split <;> simp_all
    rw [hadd, cell_of_row w g k cur e (0, 0) hh]
    have hk : k < xs.length := (List.getElem?_eq_some_iff.1 hu).1
    rw [← ht, Nat.mul_one, List.getElem?_take_of_lt hk] at hu
    simpa using hu
theorem own_lt {B n : Nat} {e : TypeId} (h : w.ownsRow B e 1 v n xs) : ∀ g, v.ownBlock = some g → B ≤ g ∧ g < w.heap.size := by
  intro g hg
  rcases h.2 with ⟨rfl, _⟩ | ⟨g', cap, cur, rfl, hb, hh, _⟩
  · cases hg
  · obtain rfl : g' = g := by simpa [Value.ownBlock] using hg
    exact ⟨hb, lt_of_block hh⟩
theorem own_under {B n : Nat} {e : TypeId} (h : w.ownsRow B e 1 v n xs) (hb : Below w.heap.size w w') : w'.ownsRow B e 1 v n xs :=
  h.kept (row := none) ⟨hb.os, hb.tape, hb.output, hb.size, fun k hk _ => hb.block k hk⟩ (by cases v.ownBlock <;> simp)
theorem below_drewN (B : Nat) (w : World) (n : Nat) : Below B w (w.drewN n) := ⟨rfl, rfl, rfl, Nat.le_refl _, fun _ _ => rfl⟩

/-- Ints as values; bytes as values. -/
def ints (xs : List Int) : List Value := xs.map (Value.int .i64)
theorem ints_len (xs : List Int) : (ints xs).length = xs.length := List.length_map _
theorem ints_at (xs : List Int) (k : Nat) (h : k < xs.length) : (ints xs)[k]? = some (.int .i64 xs[k]) := by simp [ints, h]
theorem ints_one (xs : List Int) : ∀ u ∈ ints xs, u.oneCell' = true := by
  intro u hu
  obtain ⟨s, _, rfl⟩ := List.mem_map.1 hu
  rfl
theorem ints_snoc (xs : List Int) (x : Int) : ints (xs ++ [x]) = ints xs ++ [.int .i64 x] := by simp [ints]
def byteV (c : UInt8) : Value := .int .u8 (c.toNat : Int)
def bys (bs : List UInt8) : List Value := bs.map byteV
theorem bys_len (bs : List UInt8) : (bys bs).length = bs.length := List.length_map _
theorem bys_snoc (bs : List UInt8) (c : UInt8) : bys (bs ++ [c]) = bys bs ++ [byteV c] := by simp [bys]

/-- append of a list, nil too, to a row that the call made. -/
theorem wp_append_vals {P : Program} (w : World) {ops : Array Oper} {rest : List Oper} {o : Oper} {a : Act} {Q : Exit → Act → World → Prop} (hgd : o.guard = none) (s x : Operand) (t : TypeId)
    (ho : o.op = .call { callee := .builtin .append, args := #[s, x], argTypes := #[t, t] }) (base : Nat) (e : TypeId) (i : TypeInfo) (z : Value) (bytes : Nat)
    (ht : P.underlying t = some (.slice e)) (hi : P.info? e = some i) (hz : i.zero = some z) (hsize : i.size = 1) (hby : i.bytes = bytes) (hzs : z.cells.size = 1)
    (v : Value) (n : Nat) (xs : List Value) (hs : a.eval s = v) (hown : w.ownsRow base e 1 v n xs) (src : Value) (news : List Value) (hx : a.eval x = src) (hv : Vals w src news)
    (h1 : ∀ u ∈ news, u.oneCell' = true) (h63 : n + news.length ≤ maxLen) (hbytes : (n + news.length) * bytes ≤ 140737488355328) (hbase : base ≤ w.heap.size)
    (h : ∀ v' w', w'.ownsRow base e 1 v' (n + news.length) (xs ++ news) → w.grownBy w' v.ownBlock → wpList P ops Q rest (a.put o.dst v') w') : wpList P ops Q (o :: rest) a w := by
  rcases hv with ⟨rfl, rfl⟩ | ⟨ad, c, rfl, _, _, hc⟩
  · exact wpList_append_own_none hgd s x t ho base e i 1 ht hi v n xs hs hown hx (h v w (by simpa using hown) (World.grownBy.refl w _))
  · exact wpList_append_own w hgd s x t ho base e i z 1 bytes ht hi hz hsize hby hzs (by decide) v n xs hs hown ad news.length c news hx (by simp) hc h1 h63 hbytes hbase (fun v' w' g1 g2 _ => h v' w' g1 g2)

/-- A row of bytes as a text. -/
theorem conv_own {B n : Nat} {bs : List UInt8} (h : w.ownsRow B 5 1 v n (bys bs)) : (convert 68 9 v).run Tryd.prog w = .ok (.string ⟨bs.toArray⟩) w := by
  have hv := Vals.of_own h
  rcases hv with ⟨rfl, hx⟩ | ⟨a, c, rfl, _, _, hc⟩
  · have hb : bs = [] := by simpa [bys] using hx
    subst hb
    rw [run_convert_bytes_string (P := Tryd.prog) w 68 9 5 none 0 0 Tryd.underlying68 Tryd.underlying5 Tryd.underlying9]
    rfl
  · rw [bys_len]
    refine run_convert_bytes_back (P := Tryd.prog) w 68 9 5 a c bs Tryd.underlying68 Tryd.underlying5 Tryd.underlying9 (fun j hj => ?_)
    exact hc j _ (by simp [bys, byteV, hj])
theorem Tinfo3 : (Tryd.prog.info? 3).map (fun i => (i.zero, i.size, i.bytes)) = some (some (.int .i64 0), 1, 8) := by kernel_rfl
theorem Tinfo5 : (Tryd.prog.info? 5).map (fun i => (i.zero, i.size, i.bytes)) = some (some (.int .u8 0), 1, 1) := by kernel_rfl
/-- Below, behind a row that grew. -/
theorem below_grown {a : World} {row : Option Nat} {n : Nat} (h : Below n a w) (hg : w.grownBy w' row) (hr : ∀ k, row = some k → n ≤ k) (hn : n ≤ a.heap.size) : Below n a w' :=
  ⟨hg.os.trans h.os, hg.tape.trans h.tape, hg.output.trans h.output, Nat.le_trans h.size hg.size, fun k hk => by
    rw [hg.block k (by have := h.size; omega) (fun e => by have := hr k e.symm; omega)]
    exact h.block k hk⟩
end Go.Proofs.YthombepmlepgfaaDoor
