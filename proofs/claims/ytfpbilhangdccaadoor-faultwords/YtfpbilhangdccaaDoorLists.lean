/-
  Lists in memory: a slice that reads as a list of values (nil too), one that the call itself made; Same, Chain, Places and Join on them.
-/
import Derived.Test.YtfpbilhangdccaaDoorCalls
import Derived.Deep.AppendLies
import Derived.Deep.QuietTactic
import Derived.BigQuiet
namespace Go.Proofs.YtfpbilhangdccaaDoor
open Go.RowKit

/-- The slice v reads as the values xs. -/
def Vals (w : World) (v : Value) (xs : List Value) : Prop :=
  ((∃ A c, v = .slice A 0 c) ∧ xs = []) ∨
  ∃ b off c, v = .slice (some ⟨b, off, none⟩) xs.length c ∧ xs.length ≤ c ∧ b < w.heap.size ∧ ∀ k u, xs[k]? = some u → w.cell? ⟨b, off + k, none⟩ = some u

def strs (xs : List ByteArray) : List Value := xs.map Value.string
theorem strs_len (xs : List ByteArray) : (strs xs).length = xs.length := by simp [strs]
theorem strs_at (xs : List ByteArray) (k : Nat) (h : k < xs.length) : (strs xs)[k]? = some (.string xs[k]) := by simp [strs, h]
theorem strs_one (xs : List ByteArray) : ∀ u ∈ strs xs, u.oneCell' = true := by
  intro u hu
  obtain ⟨s, _, rfl⟩ := List.mem_map.1 hu
  rfl

theorem Vals.keep {w w' : World} {v : Value} {xs : List Value} (h : Vals w v xs) (hs : w.heap.size ≤ w'.heap.size) (hk : ∀ b k, b < w.heap.size → w'.cell? ⟨b, k, none⟩ = w.cell? ⟨b, k, none⟩) : Vals w' v xs := by
  rcases h with h | ⟨b, off, c, hv, hc, hb, hx⟩
  · exact .inl h
  · exact .inr ⟨b, off, c, hv, hc, Nat.lt_of_lt_of_le hb hs, fun k u hu => (hk _ _ hb).trans (hx k u hu)⟩
theorem Vals.under {w w' : World} {v : Value} {xs : List Value} (h : Vals w v xs) (hb : Below w.heap.size w w') : Vals w' v xs :=
  h.keep hb.size fun b k hlt => hb.cell (p := ⟨b, k, none⟩) hlt
theorem Vals.drewN {w : World} {v : Value} {xs : List Value} (h : Vals w v xs) (n : Nat) : Vals (w.drewN n) v xs := h

/-- A row that the call made, whole, reads as what it holds. -/
theorem Vals.of_own {w : World} {B : Nat} {e : TypeId} {v : Value} {xs : List Value} (h : w.ownsRow B e 1 v xs.length xs) : Vals w v xs := by
  obtain ⟨h1, h2⟩ := h
  rcases h2 with ⟨hv, hn⟩ | ⟨g, cap, cur, hv, hg, hh, hn, hc, hs, ht⟩
  · exact .inl ⟨⟨_, _, hv⟩, List.eq_nil_of_length_eq_zero hn⟩
  · refine .inr ⟨g, 0, cap, hv, hn, ?_, fun k u hu => ?_⟩
    · rcases Nat.lt_or_ge g w.heap.size with hlt | hge
      · exact hlt
      · rw [Array.getElem?_eq_none hge] at hh; cases hh
    · rw [Nat.zero_add, cell_of_row w g k cur e (0, 0) hh]
      have hk : k < xs.length := by
        rcases Nat.lt_or_ge k xs.length with hlt | hge
        · exact hlt
        · rw [List.getElem?_eq_none hge] at hu; cases hu
      rw [← ht, Nat.mul_one, List.getElem?_take_of_lt hk] at hu
      simpa using hu

/-- What a function leaves that answers a new list: it reads so, all that was there reads as it did. -/
def MadeL (xs : List Value) (w : World) (e : Ending) (w' : World) : Prop := ∃ v, e = .returned v ∧ Vals w' v xs ∧ Below w.heap.size w w'

theorem Tinfo9 : (Tryd.prog.info? 9).map (fun i => (i.zero, i.size, i.bytes)) = some (some (.string ⟨#[]⟩), 1, 16) := by kernel_rfl
theorem Tinfo25 : (Tryd.prog.info? 25).map (fun i => (i.zero, i.size, i.bytes)) = some (some .nilIface, 1, 16) := by kernel_rfl

theorem below_drewN (B : Nat) (w : World) (n : Nat) : Below B w (w.drewN n) := ⟨rfl, rfl, rfl, Nat.le_refl _, fun _ _ => rfl⟩
theorem Vals.empty {w : World} {v : Value} (h : Vals w v []) : ∃ A c, v = .slice A 0 c := by
  rcases h with ⟨h, _⟩ | ⟨b, o, c, rfl, _⟩
  · exact h
  · exact ⟨_, _, rfl⟩
theorem Vals.slice {w : World} {v : Value} {xs : List Value} (h : Vals w v xs) : ∃ A c, v = .slice A xs.length c := by
  rcases h with ⟨⟨A, c, rfl⟩, rfl⟩ | ⟨b, o, c, rfl, _⟩
  · exact ⟨_, _, rfl⟩
  · exact ⟨_, _, rfl⟩
theorem Vals.full {w : World} {v : Value} {xs : List Value} (h : Vals w v xs) (hn : 0 < xs.length) : ∃ b off c, v = .slice (some ⟨b, off, none⟩) xs.length c ∧ xs.length ≤ c ∧ b < w.heap.size ∧ ∀ k u, xs[k]? = some u → w.cell? ⟨b, off + k, none⟩ = some u := by
  rcases h with ⟨_, rfl⟩ | h
  · simp at hn
  · exact h

set_option maxHeartbeats 1000000 in
theorem same_yes (xs : List ByteArray) (va vb : Value) (w : World) (hl : xs.length ≤ 1000) (ha : Vals w va (strs xs)) (hb : Vals w vb (strs xs)) :
    Calls Tryd.prog 14 #[va, vb] w fun e w' => e = .returned (.bool true) ∧ Below w.heap.size w w' := by
  by_cases h0 : xs.length = 0
  · obtain rfl : xs = [] := List.eq_nil_of_length_eq_zero h0
    obtain ⟨A, c, rfl⟩ := ha.empty
    obtain ⟨B, d, rfl⟩ := hb.empty
    clear ha hb hl h0
    go_enter Tryd.func14, Tryd.ntmps14
    go_wp2
    refine wp_loop_rounds 1 ?_
    rw [rounds_succ]
    go_wp2
    go_ret
    exact ⟨rfl, Below.refl _ _⟩
  · obtain ⟨ba, oa, ca, rfl, hca, hba, hxa⟩ := ha.full (by rw [strs_len]; omega)
    obtain ⟨bb, ob, cb, rfl, hcb, hbb, hxb⟩ := hb.full (by rw [strs_len]; omega)
    rw [strs_len] at *
    have HA := Lib.hid hxa
    have HB := Lib.hid hxb
    clear ha hb hxa hxb
    go_enter Tryd.func14, Tryd.ntmps14
    go_wp2
    go_loopg [5] xs.length (fun g i wr => ∃ k m : Nat, Hid (g = xs.length - k) ∧ k ≤ xs.length ∧ i = .int .i64 k ∧ Hid (wr = w.drewN m))
    case atStart => exact ⟨0, 0, Lib.hid rfl, Nat.zero_le _, rfl, Lib.hid rfl⟩
    case round =>
      obtain ⟨k, m, HG, hk, rfl, HW⟩ := hrel
      by_cases hlt : k < xs.length
      · have c1 : wr.cell? ⟨ba, oa + k, none⟩ = some (.string xs[k]) := by rw [HW.out]; exact HA.out k _ (strs_at xs k hlt)
        have c2 : wr.cell? ⟨bb, ob + k, none⟩ = some (.string xs[k]) := by rw [HW.out]; exact HB.out k _ (strs_at xs k hlt)
        go_wp2_with fail
        go_quiet (fail)
        go_wp2
        go_roundg (xs.length - (k + 1))
        case measure => have := HG.out; omega
        case rel => exact ⟨k + 1, _, Lib.hid rfl, by omega, by go_num, by rw [HW.out]; exact Lib.hid (by simp; rfl)⟩
      · go_wp2
        go_ret
        exact ⟨rfl, by rw [HW.out]; exact below_drewN _ _ _⟩

theorem drop_rev (xs : List ByteArray) (j : Nat) (h : j < xs.length) : strs (xs.drop j).reverse = strs (xs.drop (j + 1)).reverse ++ [Value.string xs[j]] := by
  unfold strs
  rw [List.drop_eq_getElem_cons h, List.reverse_cons, List.map_append]
  rfl

set_option maxHeartbeats 1000000 in
theorem chain_any (xs : List ByteArray) (va : Value) (w : World) (hl : xs.length ≤ 1000) (ha : Vals w va (strs xs)) :
    Calls Tryd.prog 15 #[va] w (MadeL (strs xs.reverse) w) := by
  obtain ⟨i0, hi, hz0, hz1, hz2⟩ := info_parts Tinfo9
  have hA : ∃ A c, va = .slice A xs.length c := by
    obtain ⟨A, c, h⟩ := ha.slice
    exact ⟨A, c, by rw [h, strs_len]⟩
  obtain ⟨A, c, rfl⟩ := hA
  have HA := Lib.hid ha
  clear ha
  go_enter Tryd.func15, Tryd.ntmps15
  go_wp2
  go_loopg [3, 4] xs.length (fun g v i wr => ∃ q : Int, Hid (q = (g : Int) - 1) ∧ g ≤ xs.length ∧ i = .int .i64 q ∧ wr.ownsRow w.heap.size 9 1 v (strs (xs.drop g).reverse).length (strs (xs.drop g).reverse) ∧ Below w.heap.size w wr)
  case atStart =>
    refine ⟨(xs.length : Int) - 1, Lib.hid rfl, Nat.le_refl _, rfl, ?_, (Below.refl _ _).alloc (Nat.le_refl _) _⟩
    rw [List.drop_length]
    exact World.ownsRow_made w #[] 0 (Nat.le_refl _) (Nat.zero_le _) rfl
  case round =>
    obtain ⟨q, HQ, hg, rfl, hown, hbl⟩ := hrel
    rcases Nat.eq_zero_or_pos gk with h0 | h0
    · subst h0
      obtain rfl : q = -1 := by have := HQ.out; omega
      go_wp2
      go_ret
      exact ⟨_, rfl, by simpa using Vals.of_own hown, hbl⟩
    · obtain ⟨j, rfl⟩ : ∃ j, gk = j + 1 := ⟨gk - 1, by omega⟩
      obtain rfl : q = (j : Int) := by have := HQ.out; omega
      have hj : j < xs.length := by omega
      obtain ⟨b, off, c', hv, hcc, hb, hx⟩ := HA.out.full (by rw [strs_len]; omega)
      obtain rfl : A = some ⟨b, off, none⟩ := by injection hv
      clear hv
      have cj : wr.cell? ⟨b, off + j, none⟩ = some (.string xs[j]) := (hbl.cell (p := ⟨b, off + j, none⟩) hb).trans (hx j _ (strs_at xs j hj))
      have hlen : (strs (xs.drop (j + 1)).reverse).length ≤ 1000 := by rw [strs_len]; simp; omega
      have hsz := hbl.size
      clear hx hcc hg h0
      go_wp2_with (at_builtin; refine wpList_append_own _ rfl _ _ 22 rfl w.heap.size 9 i0 (.string ⟨#[]⟩) 1 16 Tryd.underlying22 hi hz0 hz1 hz2 rfl (by decide) _ _ _ rfl (hown.alloc _) ⟨wr.heap.size, 0, none⟩ 1 1 [.string xs[j]] rfl rfl (cell_one_new _ _ _) (strs_one [xs[j]]) (by unfold maxLen; omega) (by omega) (by simp; omega) ?_; intro v' w3 hown' hgr hnil)
      go_roundg j
      case measure => omega
      case rel =>
        refine ⟨(j : Int) - 1, Lib.hid rfl, by omega, by go_num, ?_, (hbl.alloc hsz _).grown hgr (by simp; omega) (fun k hk => (hown.lt k hk).1)⟩
        rw [drop_rev xs j hj, List.length_append]
        exact hown'

/-- What the comma-ok assertion to *seen gives of an error: its pointer and true, or nil and false. -/
def Seen (x s ok : Value) : Prop := (∃ b, x = .iface 47 (.pointer (some ⟨b, 0, none⟩)) ∧ s = .pointer (some ⟨b, 0, none⟩) ∧ ok = .bool true) ∨ ∃ b, x = .iface 42 (.pointer (some ⟨b, 0, none⟩)) ∧ s = .pointer none ∧ ok = .bool false

theorem strs_snoc (a : List ByteArray) (s : ByteArray) : strs (a ++ [s]) = strs a ++ [Value.string s] := by simp [strs]

theorem Chn.length {w : World} {o : Nat} {n : Int} {ps : List ByteArray} {v : Value} (h : Chn w o n ps v) : 0 < ps.length := by cases h <;> simp

theorem Chn.seen {w : World} {o : Nat} {n : Int} {ps : List ByteArray} {v : Value} (h : Chn w o n ps v) : ∃ s ok, Seen v s ok ∧ ∀ (xT : TypeId) (w : World), (Instr.typeAssert v xT 47 true).run Tryd.prog w = .ok (.tuple #[s, ok]) w := by
  cases h with
  | org s h0 => exact ⟨_, _, .inr ⟨_, rfl, rfl, rfl⟩, f_a42_47 _⟩
  | on s b ps u h0 h => exact ⟨_, _, .inl ⟨_, rfl, rfl, rfl⟩, f_a47_47 _⟩
theorem Chn.inv47 {w : World} {o : Nat} {n : Int} {ps : List ByteArray} {b : Nat} (h : Chn w o n ps (.iface 47 (.pointer (some ⟨b, 0, none⟩)))) : ∃ s qs u, ps = s :: qs ∧ w.cell? ⟨b, 0, none⟩ = some (.string s) ∧ w.cell? ⟨b, 1, none⟩ = some u ∧ Chn w o n qs u := by
  cases h with
  | on s b ps u h0 h => exact ⟨s, ps, u, rfl, by rw [cell_of_row w b 0 _ _ _ h0]; rfl, by rw [cell_of_row w b 1 _ _ _ h0]; rfl, h⟩
theorem Chn.inv42 {w : World} {o : Nat} {n : Int} {ps : List ByteArray} {b : Nat} (h : Chn w o n ps (.iface 42 (.pointer (some ⟨b, 0, none⟩)))) : ∃ s, ps = [s] ∧ w.cell? ⟨o, 1, none⟩ = some (.string s) := by
  cases h with
  | org s h0 => exact ⟨s, rfl, by rw [cell_of_row w o 1 _ _ _ h0]; rfl⟩

theorem own_under {w w' : World} {B : Nat} {e : TypeId} {v : Value} {n : Nat} {xs : List Value} (h : w.ownsRow B e 1 v n xs) (hb : Below w.heap.size w w') : w'.ownsRow B e 1 v n xs :=
  h.kept (row := none) ⟨hb.os, hb.tape, hb.output, hb.size, fun k hk _ => hb.block k hk⟩ (by cases v.ownBlock <;> simp)

/-- The block of a row that the call made holds no error's fields. -/
theorem own_type {w : World} {B : Nat} {e : TypeId} {v : Value} {n : Nat} {xs : List Value} (h : w.ownsRow B e 1 v n xs) (h1 : e ≠ 45) (h2 : e ≠ 49) : ∀ g : Nat, v.ownBlock = some g → ∃ (cs : Array Value) (t : TypeId), w.heap[g]? = some (.cells cs t (0, 0)) ∧ t ≠ 45 ∧ t ≠ 49 := by
  intro g hg
  rcases h.2 with ⟨rfl, _⟩ | ⟨g', cap, cur, rfl, _, hh, _⟩
  · cases hg
  · obtain rfl : g' = g := by simpa [Value.ownBlock] using hg
    exact ⟨cur, e, hh, h1, h2⟩

set_option maxHeartbeats 1000000 in
theorem places_err (o : Nat) (n : Int) (ps : List ByteArray) (v : Value) (w : World) (hl : ps.length ≤ 1000) (hg : Gl w) (hc : Chn w o n ps v) :
    Calls Tryd.prog 12 #[v] w (MadeL (strs ps) w) := by
  obtain ⟨i0, hi, hz0, hz1, hz2⟩ := info_parts Tinfo9
  have HC := Lib.hid hc
  have HG := Lib.hid hg
  obtain ⟨s0, ok0, hs0, hrun⟩ := hc.seen
  have HS := Lib.hid hs0
  clear hc hg hs0
  go_enter Tryd.func12, Tryd.ntmps12
  go_wp2_with (go_at_call 17; refine (own_yes o n ps _ _ HC.out).mono ?_; rintro e w' ⟨rfl, rfl⟩)
  clear hrun
  go_loopg [0, 3, 4, 5] ps.length (fun g x l s ok wr => ∃ done qs : List ByteArray, Hid (done ++ qs = ps) ∧ Hid (qs.length = g) ∧ Hid (Chn w o n qs x) ∧ Seen x s ok ∧ wr.ownsRow w.heap.size 9 1 l (strs done).length (strs done) ∧ Below w.heap.size w wr)
  case atStart => exact ⟨[], ps, Lib.hid rfl, Lib.hid rfl, HC, HS.out, World.ownsRow_nil _ _ _ _, Below.refl _ _⟩
  case round =>
    obtain ⟨done, qs, HD, HL, HQ, hs, hown, hbl⟩ := hrel
    have hdl : (strs done).length ≤ 1000 := by rw [strs_len]; have := HD.out; subst this; simp at hl; omega
    have hsz := hbl.size
    rcases hs with ⟨b, rfl, rfl, rfl⟩ | ⟨b, rfl, rfl, rfl⟩
    · obtain ⟨s, qs', u, HE, h0, h1, h⟩ := HQ.out.inv47
      have HE := Lib.hid HE
      obtain ⟨s', ok', hs', hrun⟩ := h.seen
      have HS' := Lib.hid hs'
      have HN := Lib.hid h
      clear hs' h
      have hb1 := lt_of_cell h1
      have c0 : wr.cell? ⟨b, 0, none⟩ = some (.string s) := (hbl.cell (p := ⟨b, 0, none⟩) hb1).trans h0
      have H1 := Lib.hid h1
      clear h0 h1
      go_wp2_with (at_builtin; refine wpList_append_own _ rfl _ _ 22 rfl w.heap.size 9 i0 (.string ⟨#[]⟩) 1 16 Tryd.underlying22 hi hz0 hz1 hz2 rfl (by decide) _ _ _ rfl (hown.alloc _) ⟨wr.heap.size, 0, none⟩ 1 1 [.string s] rfl rfl (cell_one_new _ _ _) (strs_one [s]) (by unfold maxLen; omega) (by omega) (by simp; omega) ?_; intro v' w3 hown' hgr hnil; have hb3 : Below w.heap.size w w3 := (hbl.alloc hsz _).grown hgr (by simp; omega) (fun k hk => (hown.lt k hk).1); have c1 : w3.cell? ⟨b, 1, none⟩ = some u := (hb3.cell (p := ⟨b, 1, none⟩) hb1).trans H1.out)
      go_roundg qs'.length
      case measure => have e1 := HE.out; have e2 := HL.out; subst e1; simp at e2; omega
      case rel =>
        refine ⟨done ++ [s], qs', by have e1 := HE.out; subst e1; exact Lib.hid (by rw [← HD.out]; simp), Lib.hid rfl, HN, HS'.out, ?_, hb3⟩
        rw [strs_snoc, List.length_append]
        exact hown'
    · obtain ⟨s, HE, h1⟩ := HQ.out.inv42
      have HE := Lib.hid HE
      have hb1 := lt_of_cell h1
      have H1 := Lib.hid h1
      clear h1
      go_wp2_with fail
      refine (originOf_any o n qs _ _ (HG.out.under hbl) (HQ.out.under hbl)).mono ?_
      rintro e w2 ⟨rfl, hb2⟩
      have hb3 : Below w.heap.size w w2 := hbl.trans (hb2.mono hsz)
      have hsz2 := hb3.size
      have c1 : w2.cell? ⟨o, 1, none⟩ = some (.string s) := (hb3.cell (p := ⟨o, 1, none⟩) hb1).trans H1.out
      have hown2 := own_under hown hb2
      go_wp2_with (at_builtin; refine wpList_append_own _ rfl _ _ 22 rfl w.heap.size 9 i0 (.string ⟨#[]⟩) 1 16 Tryd.underlying22 hi hz0 hz1 hz2 rfl (by decide) _ _ _ rfl (hown2.alloc _) ⟨w2.heap.size, 0, none⟩ 1 1 [.string s] rfl rfl (cell_one_new _ _ _) (strs_one [s]) (by unfold maxLen; omega) (by omega) (by simp; omega) ?_; intro v' w3 hown' hgr hnil)
      go_ret
      refine ⟨_, rfl, ?_, (hb3.alloc hsz2 _).grown hgr (by simp; omega) (fun k hk => (hown2.lt k hk).1)⟩
      have e1 : strs ps = strs done ++ [Value.string s] := by rw [← HD.out, HE.out, strs_snoc]
      rw [e1]
      exact Vals.of_own (by rw [List.length_append]; exact hown')

set_option maxHeartbeats 400000 in
theorem places_nil (w : World) : Calls Tryd.prog 12 #[.nilIface] w fun e w' => e = .returned (.slice none 0 0) ∧ w = w' := by
  go_enter Tryd.func12, Tryd.ntmps12
  go_wp2_with (go_at_call 17; refine (own_nil _).mono ?_; rintro e w' ⟨rfl, rfl⟩)
  go_ret
  exact ⟨rfl, rfl⟩

/-- The first of some errors, of those that are. -/
def firstErr : List Value → Value
  | [] => .nilIface
  | .nilIface :: r => firstErr r
  | v :: _ => v
theorem firstErr_nil (r : List Value) : firstErr (.nilIface :: r) = firstErr r := rfl
theorem firstErr_err (T : TypeId) (p : Value) (r : List Value) : firstErr (.iface T p :: r) = .iface T p := rfl
/-- Each one of some is an error behind a pointer, or nil. -/
def AllErr (xs : List Value) : Prop := ∀ x ∈ xs, x = .nilIface ∨ ∃ T p, x = .iface T (.pointer (some p))

set_option maxHeartbeats 1000000 in
theorem join_any (xs : List Value) (va : Value) (w : World) (hl : xs.length ≤ 1000) (ha : Vals w va xs) (hx : AllErr xs) :
    Calls Tryd.prog 16 #[va] w fun e w' => e = .returned (firstErr xs) ∧ w = w' := by
  by_cases h0 : xs.length = 0
  · obtain rfl : xs = [] := List.eq_nil_of_length_eq_zero h0
    obtain ⟨A, c, rfl⟩ := ha.empty
    clear ha hl h0 hx
    go_enter Tryd.func16, Tryd.ntmps16
    go_wp2
    refine wp_loop_rounds 1 ?_
    rw [rounds_succ]
    go_wp2
    go_ret
    exact ⟨rfl, rfl⟩
  · obtain ⟨b, off, c, rfl, hcc, hb, hxa⟩ := ha.full (by omega)
    have HA := Lib.hid hxa
    have HX := Lib.hid hx
    clear ha hxa hx
    go_enter Tryd.func16, Tryd.ntmps16
    go_wp2
    go_loopg [7] xs.length (fun g i wr => ∃ k : Nat, Hid (g = xs.length - k) ∧ k ≤ xs.length ∧ i = .int .i64 k ∧ Hid (firstErr xs = firstErr (xs.drop k)) ∧ Hid (w = wr))
    case atStart => exact ⟨0, Lib.hid rfl, Nat.zero_le _, rfl, Lib.hid rfl, Lib.hid rfl⟩
    case round =>
      obtain ⟨k, HG, hk, rfl, HF, HW⟩ := hrel
      by_cases hlt : k < xs.length
      · have c1 : wr.cell? ⟨b, off + k, none⟩ = some xs[k] := by rw [← HW.out]; exact HA.out k _ (List.getElem?_eq_getElem hlt)
        have HD : Hid (firstErr xs = firstErr (xs[k] :: xs.drop (k + 1))) := by rw [HF.out, List.drop_eq_getElem_cons hlt]; exact Lib.hid rfl
        rcases HX.out xs[k] (List.getElem_mem hlt) with hv | ⟨T, p, hv⟩
        · rw [hv] at c1 HD
          clear hv
          go_wp2
          go_roundg (xs.length - (k + 1))
          case measure => have := HG.out; omega
          case rel => exact ⟨k + 1, Lib.hid rfl, by omega, by go_num, Lib.hid HD.out, HW⟩
        · rw [hv] at c1 HD
          clear hv
          go_wp2
          go_ret
          exact ⟨by rw [HD.out]; rfl, HW.out⟩
      · go_wp2
        go_ret
        exact ⟨by rw [HF.out, List.drop_eq_nil_of_le (by omega)]; rfl, HW.out⟩
end Go.Proofs.YtfpbilhangdccaaDoor
