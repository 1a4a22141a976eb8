/-
  A reply is equal to itself; the laws' own great; their awake.
  From a law's walk to its given row: a state, an operation that came in; the arguments as they were.
  What the laws over a model share: acts one by one, bounds.
-/
import Derived.Test.YtchaeidmjoelnaaMdO
import Derived.Test.YtchaeidmjoelnaaPkF
import Derived.Deep.LoopGhost
import Derived.DeepKeys
import Derived.Test.YtchaeidmjoelnaaRows
import Derived.ChangeSame
import Derived.ChangeVars
import Derived.JoinedOf
import Derived.RowKit
import Derived.RowKitTokens
import Derived.LaidLaws
import Derived.Stop.Joined
import Derived.Carry
import Derived.ProofKit
import Derived.OpenShut
import Derived.ChangeMaps5
import Derived.Deep.Slices
import Derived.WideKeyArr2
import Derived.Deep.SlicePairs
namespace Go.Proofs.Ytchaeidmjoelnaa
open Go.RowKit

theorem c27e : Try.prog.cellsOf 27 = 1 := by kernel_rfl
theorem c40 : Try.prog.cellsOf 40 = 2 := by kernel_rfl
theorem c42 : Try.prog.cellsOf 42 = 4 := by kernel_rfl
theorem c44 : Try.prog.cellsOf 44 = 21 := by kernel_rfl
theorem kl27 (d : Nat) {a : Int} (h : Fits a) : Try.prog.keyLits (d + 1) 27 [.int .i64 a] = some [.int .i64 a] := by
  simp [Program.keyLits, Try.underlying27, wfI_of h]
theorem kl40 (d : Nat) {a b : Int} (ha : Fits a) (hb : Fits b) : Try.prog.keyLits (d + 2) 40 [.int .i64 a, .int .i64 b] = some [.int .i64 a, .int .i64 b] := by
  unfold Program.keyLits
  simp only [Try.underlying40]
  simp [c40, c3, kl3 d ha, kl3 d hb]
theorem kl42 (d : Nat) {a b c e : Int} (ha : Fits a) (hb : Fits b) (hc : Fits c) (he : Fits e) : Try.prog.keyLits (d + 3) 42 [.int .i64 a, .int .i64 b, .int .i64 c, .int .i64 e] = some [.int .i64 a, .int .i64 b, .int .i64 c, .int .i64 e] := by
  unfold Program.keyLits
  simp only [Try.underlying42]
  simp [c42, c22, kl22 d ha hb, kl22 d hc he]
structure FitsM (m : Md) : Prop where
  s : FitsS m.s
  slot : Fits m.ro.slot
  gen : Fits m.ro.gen
  k : Fits (m.k.length : Int)
  l : Fits (m.l.length : Int)
  ck : Fits (cntL m.k : Int)
  cl : Fits (cntL m.l : Int)
  tick : Fits m.tick
def repL (m : Md) : List Lit := [.int .i64 0] ++ stL m.s ++ [.int .i64 m.ro.slot, .int .i64 m.ro.gen, .int .i64 (m.k.length : Int), .int .i64 (m.l.length : Int), .int .i64 (cntL m.k : Int), .int .i64 (cntL m.l : Int), .bool true, .int .i64 m.tick]
theorem f0 : Fits 0 := by unfold Fits; omega
set_option maxRecDepth 100000 in
theorem kl44 (d : Nat) {m : Md} (h : FitsM m) : Try.prog.keyLits (d + 4) 44 (repC m).toList = some (repL m) := by
  have hs := kl25 d h.s
  simp only [stC] at hs
  unfold Program.keyLits
  simp only [Try.underlying44]
  simp [repC, c44, c27e, c25, c40, c42, c4, c3, kl27 (d + 2) f0, hs, kl40 (d + 1) h.slot h.gen, kl42 d h.k h.l h.ck h.cl, kl4 (d + 2), kl3 (d + 2) h.tick]
  rfl
theorem kt44 : Try.prog.keyTypeAt 10 44 = true := by kernel_rfl
/-- A reply is equal to itself. -/
theorem eq44 {m : Md} (h : FitsM m) (w : World) : (Op.equalIn 10000 44 (.agg (repC m)) (.agg (repC m))).run Try.prog w = .ok true w := by
  obtain ⟨r, hr, hi⟩ := run_equalIn_deep 9990 10 44 kt44 w 4 4 (.agg (repC m)) (.agg (repC m)) _ _ (by kernel_rfl) (by kernel_rfl) (kl44 0 h) (kl44 0 h)
  rw [hr, hi.2 rfl]
theorem MdI.fits {m : Md} (h : MdI m) : FitsM m := by
  have hr := right_in h.right
  have hw := right_w h.right
  have h1 := h.lk
  have h2 := h.ll
  have h3 := h.tick
  have h4 := h.gen
  have h5 := h.cell
  have h6 := cnt_le m.k
  have h7 := cnt_le m.l
  exact ⟨right_fits h.right, by unfold Fits; omega, by unfold Fits; omega, by unfold Fits; omega, by unfold Fits; omega, by unfold Fits; omega, by unfold Fits; omega, by unfold Fits; omega⟩
/-! great -/
def greatB (xs : List Am) : Bool := decide (80 < xs.length) || xs.any fun a => decide (50 < a.outs.length)
theorem great_no {xs : List Am} (h : greatB xs = false) : xs.length ≤ 80 ∧ ∀ a ∈ xs, a.outs.length ≤ 50 := by
  unfold greatB at h
  simp only [Bool.or_eq_false_iff, decide_eq_false_iff_not, List.any_eq_false, decide_eq_true_eq] at h
  exact ⟨by omega, fun a ha => by have := h.2 a ha; omega⟩
theorem great_long {xs : List Am} (h : 80 < xs.length) : greatB xs = true := by
  unfold greatB
  rw [decide_eq_true h]
  rfl
theorem great_one {xs : List Am} {k : Nat} (hk : k < xs.length) (h : 50 < xs[k].outs.length) : greatB xs = true := by
  unfold greatB
  rw [Bool.or_eq_true]
  exact .inr (List.any_eq_true.2 ⟨xs[k], List.getElem_mem hk, decide_eq_true h⟩)
theorem great_none {xs : List Am} (h : ¬ 80 < xs.length) (hk : ∀ k (h : k < xs.length), ¬ 50 < xs[k].outs.length) : greatB xs = false := by
  unfold greatB
  rw [decide_eq_false h, Bool.false_or, List.any_eq_false]
  intro a ha
  obtain ⟨k, hk1, rfl⟩ := List.getElem_of_mem ha
  simpa using hk k hk1
theorem ActsI.under {W W' : World} {v : Value} {xs : List Am} (h : ActsI W v xs) (hb : Below W.heap.size W W') : ActsI W' v xs := by
  rcases h with h | ⟨b, o, c, h1, h2, h3, h4, h5⟩
  · exact .inl h
  · exact .inr ⟨b, o, c, h1, h2, h3, Nat.lt_of_lt_of_le h4 hb.size, fun k hk => by
      obtain ⟨u, g1, g2, g3⟩ := h5 k hk
      exact ⟨u, range_under g1 hb h4, g2.under hb (Nat.le_refl _), g3⟩⟩
theorem amC_one (a : Am) (A : Option Addr) (n c : Nat) : (amC a (.slice A n c)).all (·.oneCell') = true := by simp [amC, Value.oneCell']
def zeroAC : Array Value := amC ⟨0, 0, 0, false, ⟨0, 0, 0, 0, false⟩, []⟩ (.slice none 0 0)
set_option maxRecDepth 100000 in
set_option maxHeartbeats 4000000 in
theorem great_any (v : Value) (xs : List Am) (w : World) (h : ActsI w v xs) : Calls Try.prog 10 #[v] w fun e w' => e = .returned (.bool (greatB xs)) ∧ Below w.heap.size w w' := by
  obtain ⟨A, c, rfl⟩ := h.shape
  have HX := Lib.hid h
  clear h
  by_cases h80 : 80 < xs.length
  case pos =>
    have e1 : decide ((80 : Int) < (xs.length : Int)) = true := by simp; omega
    have e2 : decide (80 < xs.length) = true := decide_eq_true h80
    have HE := Lib.hid (great_long h80)
    clear h80
    go_enter Try.func10, Try.ntmps10
    go_wp2
    go_ret
    exact ⟨by rw [HE.out]; rfl, Below.refl _ _⟩
  have e1 : decide ((80 : Int) < (xs.length : Int)) = false := by simp; omega
  have e2 : decide (80 < xs.length) = false := decide_eq_false h80
  have HL : Hid (¬ 80 < xs.length) := Lib.hid h80
  clear h80
  go_enter Try.func10, Try.ntmps10
  go_wp2
  clear e1 e2
  go_loopg [10] xs.length (fun m' iv wr => ∃ k : Nat, Hid (m' = xs.length - k) ∧ k ≤ xs.length ∧ iv = .int .i64 (k : Int) ∧ Hid (∀ j (hj : j < xs.length), j < k → ¬ 50 < xs[j].outs.length) ∧ Hid (Below w.heap.size w wr))
  case atStart => exact ⟨0, Lib.hid rfl, Nat.zero_le _, rfl, Lib.hid (fun j _ hj => by omega), Lib.hid (Below.refl _ _)⟩
  case round =>
    obtain ⟨k, HG, hk, rfl, HP, HB⟩ := hrel
    by_cases hlt : k < xs.length
    case pos =>
      have HK := Lib.hid hlt
      have d1 : decide ((k : Int) < (xs.length : Int)) = true := by simp; omega
      have d2 : decide (k < xs.length) = true := decide_eq_true hlt
      have HL8 : Hid (k < 80) := Lib.hid (by have := HL.out; omega)
      have hk8 : k < 80 := HL8.out
      obtain ⟨bb, oo, u, hA, hrg, hui, hfa, hbl⟩ := HX.out.kth HB.out hlt
      subst hA
      obtain ⟨A', c', hu⟩ := IntsI.shape hui
      obtain ⟨cs, hcs⟩ : ∃ c, c = amC xs[k] u := ⟨_, rfl⟩
      have HRG : Hid (wr.rangeAt bb (oo + k * 10) cs.toList) := Lib.hid (by rw [hcs]; exact hrg)
      rw [hu] at hcs
      have HZC : Hid (cs.size = 10) := Lib.hid (by rw [hcs]; rfl)
      have H1C : Hid (cs.all (·.oneCell') = true) := Lib.hid (by rw [hcs]; exact amC_one _ _ _ _)
      have HC : Hid (cs[9]? = some (.slice A' xs[k].outs.length c')) := Lib.hid (by rw [hcs]; rfl)
      obtain ⟨n, hn⟩ : ∃ n, n = xs[k].outs.length := ⟨_, rfl⟩
      rw [← hn] at HC
      have HN := Lib.hid hn
      clear hrg hui hfa hcs hn hbl hu hlt
      go_upto_region 6 with (first | (refine load_mid (by rfl) 34 (.tmp 12) rfl bb (oo + k * 10) rfl cs _ HRG.out Try.underlying34 rfl (by rw [HZC.out]; exact i10) ?_) | (refine wpList_plain rfl fun _ hK => wp_store_row 34 (.tmp 4) (.tmp 13) rfl wr.heap.size cs rfl rfl 34 _ (Rw.new wr _ 34) (by rw [HZC.out]; exact i10) (by rw [HZC.out]; rfl) H1C.out (hK _ _ ?_); clear hK))
      obtain ⟨X, hX⟩ : ∃ X, X = wr.heap.size := ⟨_, rfl⟩
      rw [← hX]
      refine name_w (fun V => Rw V X cs 34 ∧ Below w.heap.size w V) ?_ ?_
      · have ba := (Below.refl wr.heap.size wr).alloc (Nat.le_refl _) (.cells zeroAC 34)
        have bb := below_setRow ba (Nat.le_refl _) (b := wr.heap.size) cs
        rw [hX]
        exact ⟨(Rw.new wr _ 34).set cs, HB.out.trans (bb.mono HB.out.size)⟩
      clear hX HB HRG
      rintro V ⟨h1, h2⟩
      have HB := Lib.hid h2
      have x9 : V.cell? ⟨X, 9, none⟩ = some (.slice A' n c') := by rw [h1.cell 9]; exact HC.out
      clear h1 h2
      by_cases h50 : 50 < n
      case pos =>
        have g1 : decide ((50 : Int) < (n : Int)) = true := by simp; omega
        have g2 : decide (50 < n) = true := decide_eq_true h50
        have HE := Lib.hid (great_one HK.out (by have h := h50; rw [HN.out] at h; exact h))
        clear h50
        go_wp2
        go_ret
        exact ⟨by rw [HE.out]; rfl, HB.out⟩
      have g1 : decide ((50 : Int) < (n : Int)) = false := by simp; omega
      have g2 : decide (50 < n) = false := decide_eq_false h50
      have HF := Lib.hid h50
      clear h50
      go_wp2
      go_roundg (xs.length - (k + 1))
      case measure => have := HG.out; have := HK.out; omega
      case rel => exact ⟨k + 1, Lib.hid rfl, HK.out, by go_num, Lib.hid (fun j hj h => by
        by_cases e : j = k
        · subst e; have h := HF.out; rw [HN.out] at h; exact h
        · exact HP.out j hj (by omega)), HB⟩
    case neg =>
      have d1 : decide ((k : Int) < (xs.length : Int)) = false := by simp; omega
      have d2 : decide (k < xs.length) = false := decide_eq_false hlt
      have HE := Lib.hid (great_none HL.out (fun j hj => HP.out j hj (by omega)))
      clear hlt hk
      go_wp2
      go_ret
      exact ⟨by rw [HE.out]; rfl, HB.out⟩
/-! awake -/
theorem new_yes {F : ObIn Md} (hp : PkgMd F) {rev n tries : Int} (W : World) (h : rightS (firstS rev n) = true) (h1 : Fits rev) (h2 : Fits n) (h3 : Fits tries) : Calls Try.prog 11 #[.int .i64 rev, .int .i64 n, .int .i64 tries] W fun e w' => ∃ b, e = .returned (.tuple #[ptr b, .int .i64 0]) ∧ NewO F W w' b (newM (firstS rev n) tries) :=
  (hp.new rev n tries W h1 h2 h3).mono fun e w' h4 => by
    rcases h4 with ⟨_, h5⟩ | ⟨h5, _⟩
    · exact h5
    · rw [h] at h5; cases h5
theorem new_no {F : ObIn Md} (hp : PkgMd F) {rev n tries : Int} (W : World) (h : rightS (firstS rev n) = false) (h1 : Fits rev) (h2 : Fits n) (h3 : Fits tries) : Calls Try.prog 11 #[.int .i64 rev, .int .i64 n, .int .i64 tries] W fun e w' => e = .returned (.tuple #[.pointer none, .int .i64 1]) ∧ Below W.heap.size W w' :=
  (hp.new rev n tries W h1 h2 h3).mono fun e w' h4 => by
    rcases h4 with ⟨h5, _⟩ | ⟨_, h5⟩
    · rw [h] at h5; cases h5
    · exact h5
def a0 : Md := newM (firstS 1 2) 3
def a1 : Md := (opM a0 ⟨1, 2, 1, 0, false⟩).1
def a2 : Md := (stepM a1 []).1
def a3 : Md := readyM a2 1 0 true
def a4 : Md := (stepM a3 []).1
def a5 : Md := (opM a4 ⟨4, 2, 0, 0, true⟩).1
def a6 : Md := (stepM a5 [2, 1]).1
theorem ok1 : (opM a0 ⟨1, 2, 1, 0, false⟩).2 = 0 := by kernel_rfl
theorem ok3 : decide (isW (slotK 1 a2.k a2.l) 0) = true := by kernel_rfl
theorem ok4 : (stepM a3 []).2 = 0 := by kernel_rfl
theorem ok5 : (opM a4 ⟨4, 2, 0, 0, true⟩).2 = 0 := by kernel_rfl
theorem ok6 : (stepM a5 [2, 1]).2 = 0 := by kernel_rfl
theorem ok7 : (opM a6 ⟨4, 2, 0, 0, false⟩).2 = 7 := by kernel_rfl
theorem ok8 : a6.ro.slot = 1 ∧ a6.ro.gen = 1 ∧ a6.s.ph = 4 ∧ a6.s.ac = 1 := ⟨by kernel_rfl, by kernel_rfl, by kernel_rfl, by kernel_rfl⟩
theorem rs12 : rightS (firstS 1 2) = true := by kernel_rfl
theorem rs02 : rightS (firstS 0 2) = false := by kernel_rfl
theorem ints_nil (W : World) : IntsI W (.slice none 0 0) [] := .inl ⟨.inl rfl, rfl⟩
theorem ints_two {W : World} {X : Nat} (h : Rw W X #[.int .i64 2, .int .i64 1] 3) : IntsI W (.slice (some ⟨X, 0, none⟩) 2 2) [2, 1] :=
  .inr ⟨X, 0, 2, rfl, by decide, by decide, h.lt, fun k hk => by
    match k, hk with
    | 0, _ => rw [h.cell]; rfl
    | 1, _ => rw [h.cell]; rfl
    | k + 2, hk => simp at hk; omega⟩
theorem fin (a : Int) (h : -100 ≤ a ∧ a ≤ 100) : Fits a := by unfold Fits; omega
theorem fo (k r c d : Int) (p : Bool) (h : (-100 ≤ k ∧ k ≤ 100) ∧ (-100 ≤ r ∧ r ≤ 100) ∧ (-100 ≤ c ∧ c ≤ 100) ∧ (-100 ≤ d ∧ d ≤ 100)) : FitsO ⟨k, r, c, d, p⟩ := ⟨fin _ h.1, fin _ h.2.1, fin _ h.2.2.1, fin _ h.2.2.2⟩
set_option maxRecDepth 100000 in
set_option maxHeartbeats 4000000 in
theorem awake_any {F : ObIn Md} (hp : PkgMd F) (w : World) : Calls Try.prog 9 #[] w fun e w' => e = .returned (.bool true) ∧ Below w.heap.size w w' := by
  have HP := Lib.hid hp
  have N0 : Hid (MdN 0 a0) := Lib.hid (mdn_new rs12)
  have N1 : Hid (MdN 0 a1) := Lib.hid (N0.out.op _)
  have N2 : Hid (MdN 10 a2) := Lib.hid (N1.out.step (by decide))
  have N3 : Hid (MdN 10 a3) := Lib.hid (N2.out.ready _ _ _)
  have N4 : Hid (MdN 20 a4) := Lib.hid (N3.out.step (by decide))
  have N5 : Hid (MdN 20 a5) := Lib.hid (N4.out.op _)
  have N6 : Hid (MdN 30 a6) := Lib.hid (N5.out.step (by decide))
  clear hp
  go_enter Try.func9, Try.ntmps9
  go_wp2_with fail
  refine (new_yes HP.out w rs12 (fin _ (by omega)) (fin _ (by omega)) (fin _ (by omega))).mono ?_
  rintro e w1 ⟨b, rfl, h⟩
  have H1 : Hid (One F w w1 [] b a0) := Lib.hid (h.one (Below.refl _ _))
  clear h
  go_wp2_with fail
  refine (H1.out.aside HP.out.ks (new_no HP.out w1 rs02 (fin _ (by omega)) (fin _ (by omega)) (fin _ (by omega)))).mono ?_
  rintro e w2 ⟨rfl, h⟩
  have H2 := Lib.hid h
  clear h H1
  go_wp2_with fail
  have hc := one_op HP.out H2.out N0.out ⟨1, 2, 1, 0, false⟩ (fo _ _ _ _ _ (by omega))
  rw [ok1] at hc
  refine hc.mono ?_
  rintro e w3 ⟨rfl, h⟩
  have H3 : Hid (One F w w3 [] b a1) := Lib.hid h
  clear h hc H2
  go_wp2_with fail
  have hc := one_step HP.out H3.out N1.out (by decide) (ints_nil _) (by decide)
  skip
  refine hc.mono ?_
  rintro e w4 ⟨rfl, h⟩
  have H4 : Hid (One F w w4 [] b a2) := Lib.hid h
  clear h hc H3
  go_wp2_with fail
  have hc := one_ready HP.out H4.out N2.out 1 0 true
  rw [ok3] at hc
  refine hc.mono ?_
  rintro e w5 ⟨rfl, h⟩
  have H5 : Hid (One F w w5 [] b a3) := Lib.hid h
  clear h hc H4
  go_wp2_with fail
  have hc := one_step HP.out H5.out N3.out (by decide) (ints_nil _) (by decide)
  rw [ok4] at hc
  refine hc.mono ?_
  rintro e w6 ⟨rfl, h⟩
  have H6 : Hid (One F w w6 [] b a4) := Lib.hid h
  clear h hc H5
  go_wp2_with fail
  have hc := one_op HP.out H6.out N4.out ⟨4, 2, 0, 0, true⟩ (fo _ _ _ _ _ (by omega))
  rw [ok5] at hc
  refine hc.mono ?_
  rintro e w7 ⟨rfl, h⟩
  have H7 : Hid (One F w w7 [] b a5) := Lib.hid h
  clear h hc H6
  go_wp2_with fail
  have h8 := H7.out.alloc HP.out.ks #[.int .i64 2, .int .i64 1] 3
  obtain ⟨X, hX⟩ : ∃ X, X = w7.heap.size := ⟨_, rfl⟩
  rw [← hX] at h8 ⊢
  have HC8 := one_step HP.out h8 N5.out (by decide) (ints_two h8.row1) (by decide)
  rw [ok6] at HC8
  refine HC8.mono ?_
  rintro e w8 ⟨rfl, h⟩
  have H8 : Hid (One F w w8 [] b a6) := Lib.hid h.nil
  clear h h8 hX HC8 H7
  go_wp2_with fail
  obtain ⟨cs, hcs⟩ : ∃ c, c = repC a6 := ⟨_, rfl⟩
  have HC9 : Calls Try.prog 12 #[.pointer (some ⟨b, 0, none⟩)] w8 fun e w' => e = .returned (.agg cs) ∧ One F w w' [] b a6 := by
    rw [hcs]
    exact one_reply HP.out H8.out N6.out
  have HC := Lib.hid hcs
  have HZC : Hid (cs.size = 21) := Lib.hid (by rw [hcs]; rfl)
  have H1C : Hid (cs.all (·.oneCell') = true) := Lib.hid (by rw [hcs]; exact repC_one _)
  clear hcs
  refine HC9.mono ?_
  rintro e w9 ⟨rfl, h⟩
  have H9 := Lib.hid h
  clear h HC9 H8
  go_upto_region 12 with (first | (refine wpList_plain rfl fun _ hK => wp_store_row 44 (.tmp 10) (.tmp 45) rfl w9.heap.size cs rfl rfl 44 _ (Rw.new w9 _ 44) (by rw [HZC.out]; exact i21) (by rw [HZC.out]; rfl) H1C.out (hK _ _ ?_); clear hK))
  obtain ⟨X, hX⟩ : ∃ X, X = w9.heap.size := ⟨_, rfl⟩
  rw [← hX]
  refine name_w (fun V => One F w V [(X, cs, 44)] b a6) (by rw [hX]; exact (H9.out.alloc HP.out.ks _ 44).setRow HP.out.ks cs) ?_
  clear hX H9
  rintro V h
  have hr := h.row1
  have hv := ok8
  have H10 := Lib.hid h
  have x1 : V.cell? ⟨X, 1, none⟩ = some (.int .i64 4) := by rw [hr.cell, HC.out, ← hv.2.2.1]; rfl
  have x2 : V.cell? ⟨X, 2, none⟩ = some (.int .i64 1) := by rw [hr.cell, HC.out, ← hv.2.2.2]; rfl
  have x19 : V.cell? ⟨X, 19, none⟩ = some (.bool true) := by rw [hr.cell, HC.out]; rfl
  have HG : Hid (V.rangeAt X 13 (#[.int .i64 1, .int .i64 1] : Array Value).toList) := Lib.hid (hr.range _ (fun j v hj => by
    rw [HC.out]
    match j, hj with
    | 0, hj => rw [← hj]; show some (Value.int .i64 a6.ro.slot) = _; rw [hv.1]; rfl
    | 1, hj => rw [← hj]; show some (Value.int .i64 a6.ro.gen) = _; rw [hv.2.1]; rfl
    | j + 2, hj => simp at hj))
  have hq := eq34 1 1 1 1
  clear h hr hv
  go_wp2_with (first | (refine load_mid (by rfl) 40 (.tmp 64) rfl X 13 rfl #[.int .i64 1, .int .i64 1] _ HG.out Try.underlying40 rfl i34 ?_))
  have HC11 := one_op HP.out H10.out N6.out ⟨4, 2, 0, 0, false⟩ (fo _ _ _ _ _ (by omega))
  rw [ok7] at HC11
  refine HC11.mono ?_
  rintro e w11 ⟨rfl, h⟩
  have H11 := Lib.hid h.low
  clear h HC11 H10
  go_wp2
  go_ret
  exact ⟨rfl, H11.out⟩
end Go.Proofs.Ytchaeidmjoelnaa
namespace Go.Proofs.Ytchaeidmjoelnaa
open Go.ChangeShapes Go.WideShapes Go.ChangeAt Go.RowKit

theorem t_own : ownKnob Try.prog.godebug = none := by kernel_rfl
theorem t_laidOut : laidOutB Try.prog = true := by kernel_rfl

/-- All arguments read behind the call as they did. -/
theorem trodAll_under {H : Type} {enc : TypeId × Value → H} {W W' : World} (hb : Below W.heap.size W W') : ∀ (ts : List TypeId) (vs : List Value) (ds : List (DataW H)) (ps : List MemPlace),
    (∀ t ∈ ts, Try.prog.readableRec t = true ∧ t < Try.prog.types.size) → DataW.TrodAll enc Try.prog W 0 (fun _ => true) true ts vs ds ps → (∀ x ∈ ps, x.block < W.heap.size) →
    DataW.TrodAll enc Try.prog W' 0 (fun b => decide (b < W.heap.size)) true ts vs ds ps
  | [], vs, ds, ps, _, h, _ => by
    obtain ⟨rfl, rfl, rfl⟩ := trodAll_nil h
    exact trodAll_mk0
  | t :: ts, vs, ds, ps, ht, h, hp => by
    obtain ⟨v0, vs0, d0, ds0, p0, q0, rfl, rfl, rfl, h0, r0⟩ := trodAll_cons h
    obtain ⟨hr, hrow⟩ := ht t (List.mem_cons_self ..)
    exact trodAll_cons_mk (Below.trod t_laidOut hr hrow h0 hb fun x hx => hp x (List.mem_append_left _ hx))
      (trodAll_under hb ts vs0 ds0 q0 (fun t' h' => ht t' (List.mem_cons_of_mem _ h')) r0 fun x hx => hp x (List.mem_append_right _ hx))

theorem t_size : 45 < Try.prog.types.size := of_decide_eq_true (by kernel_rfl)
theorem params_ok (t : Nat) (h : t = 3 ∨ t = 4 ∨ t = 22 ∨ t = 23 ∨ t = 32) : Try.prog.readableRec t = true ∧ t < Try.prog.types.size := by
  have := t_size
  rcases h with rfl | rfl | rfl | rfl | rfl <;> exact ⟨by kernel_rfl, by omega⟩

/-- What a law leaves: true, all that was there as it was. -/
def Holds (w : World) (e : Ending) (w' : World) : Prop := e = .returned (.bool true) ∧ Below w.heap.size w w'

/-- A law's post out of its walk. -/
theorem post_of_holds {H : Type} {enc : TypeId × Value → H} {f : Func} {s : ChangeSpec} {W W' : World} {args : Array Value} {ds gs : List (DataW H)} {before : List MemPlace}
    (hW : DataW.Whole enc Try.prog f.params.toList s.vars false W args.toList ds gs before) (hr : f.resultTypes = #[4]) (hv : s.vars = [])
    (hp : ∀ t ∈ f.params.toList, Try.prog.readableRec t = true ∧ t < Try.prog.types.size)
    (hfn : (s.fn H ds).results = [.lit (.bool true)] ∧ (s.fn H ds).args = ds ∧ (s.fn H ds).vars = []) (hb : Below W.heap.size W W') :
    s.post enc Try.prog f false true false false W args (.bool true) W' := by
  have hW' := hW
  obtain ⟨p, q, hA, hV, rfl, _, _⟩ := hW
  rw [hv] at hV
  obtain ⟨rfl, rfl⟩ : gs = [] ∧ q = [] := by
    cases gs with
    | nil => exact ⟨rfl, hV⟩
    | cons g r => exact absurd hV (by intro h; cases h)
  obtain ⟨h1, h2, h3⟩ := hfn
  refine ⟨_, _, _, [], p, [], hW', ?_, ?_, ?_, hb.frame _, fun h => by cases h⟩
  · rw [List.append_nil, h1, hr]; exact trodAll_mk1 (shut_bool Try.underlying4 true)
  · rw [List.append_nil, h2]
    exact trodAll_under hb _ _ _ _ hp hA fun x hx => by simpa using hW'.lt x (by simpa using hx)
  · rw [List.append_nil, h3, hv]; rfl

section
variable {H : Type} {enc : TypeId × Value → H} {W : World} {sp : Nat → Bool} {hd : Bool} {n : Nat}
theorem oneI {v : Value} {x : DataW H × List MemPlace} (h : DataW.trod enc Try.prog W 0 sp hd n 3 [v] = some x) : ∃ a, v = .int .i64 a ∧ Fits a := by
  obtain ⟨a, h1, _, h2⟩ := DataW.trod_int Try.underlying3 h
  exact ⟨a, by simpa using h1, bounds_i64 h2⟩
theorem oneB {v : Value} {x : DataW H × List MemPlace} (h : DataW.trod enc Try.prog W 0 sp hd n 4 [v] = some x) : ∃ a, v = .bool a := by
  obtain ⟨a, h1, _⟩ := DataW.trod_bool Try.underlying4 h
  exact ⟨a, by simpa using h1⟩
theorem two_ints {u v : Value} {x : DataW H × List MemPlace} (h : DataW.trod enc Try.prog W 0 sp hd n 35 [u, v] = some x) : ∃ a b, u = .int .i64 a ∧ v = .int .i64 b ∧ Fits a ∧ Fits b := by
  obtain ⟨xs, m, _, _, _, hl, he⟩ := DataW.trod_array Try.underlying35 h
  match xs, hl with
  | [y0, y1], _ =>
    have g0 := he 0 (by decide)
    have g1 := he 1 (by decide)
    simp [c3] at g0 g1
    obtain ⟨a, rfl, ha⟩ := oneI g0
    obtain ⟨b, rfl, hb⟩ := oneI g1
    exact ⟨a, b, rfl, rfl, ha, hb⟩
theorem two_bools {u v : Value} {x : DataW H × List MemPlace} (h : DataW.trod enc Try.prog W 0 sp hd n 36 [u, v] = some x) : ∃ a b, u = .bool a ∧ v = .bool b := by
  obtain ⟨xs, m, _, _, _, hl, he⟩ := DataW.trod_array Try.underlying36 h
  match xs, hl with
  | [y0, y1], _ =>
    have g0 := he 0 (by decide)
    have g1 := he 1 (by decide)
    simp [c4] at g0 g1
    obtain ⟨a, rfl⟩ := oneB g0
    obtain ⟨b, rfl⟩ := oneB g1
    exact ⟨a, b, rfl, rfl⟩
end
/-- Five cells that read as an operation. -/
theorem open_cells27 {H : Type} {enc : TypeId × Value → H} {W : World} {sp : Nat → Bool} {hd : Bool} {n : Nat} {l : List Value} (hl : l.length = 5) {x : DataW H × List MemPlace} (h : DataW.trod enc Try.prog W 0 sp hd n 31 l = some x) : ∃ o, l = (opC o).toList ∧ FitsO o := by
  match l, hl with
  | [v0, v1, v2, v3, v4], _ =>
    obtain ⟨xs, m, _, _, _, hl, hfs⟩ := DataW.trod_struct Try.underlying31 h
    match xs, hl with
    | [y0, y1, y2, y3, y4], _ =>
      have g0 := hfs 0 _ rfl
      have g1 := hfs 1 _ rfl
      have g2 := hfs 2 _ rfl
      have g3 := hfs 3 _ rfl
      have g4 := hfs 4 _ rfl
      simp [c3, c4] at g0 g1 g2 g3 g4
      obtain ⟨kind, rfl, h0⟩ := oneI g0
      obtain ⟨rev, rfl, h1⟩ := oneI g1
      obtain ⟨cnt, rfl, h2⟩ := oneI g2
      obtain ⟨delay, rfl, h3⟩ := oneI g3
      obtain ⟨pass, rfl⟩ := oneB g4
      exact ⟨⟨kind, rev, cnt, delay, pass⟩, rfl, ⟨h0, h1, h2, h3⟩⟩
theorem k34 : Try.prog.cellsOf 34 = 10 := by kernel_rfl
theorem k31 : Try.prog.cellsOf 31 = 5 := by kernel_rfl
theorem k32 : Try.prog.cellsOf 32 = 1 := by kernel_rfl
set_option maxRecDepth 20000 in
/-- Acts that came in. -/
theorem open_acts {H : Type} {enc : TypeId × Value → H} {W : World} {base : Nat} {v : Value} {d : DataW H} {ps : List MemPlace} (hok : Value.okWide Try.prog W .any base 23 v) (h : DataW.Trod enc Try.prog W 0 (fun _ => true) true 23 v d ps) : ∃ xs, ActsI W v xs := by
  obtain ⟨a, len, cap, rfl⟩ := okWide_slice Try.underlying23 hok
  obtain ⟨fuel, hf⟩ := h
  rcases Go.Deep.open_slice Try.underlying23 hf with ⟨h0, _⟩ | ⟨a', len', cap', m, n, D, Pl, h0, _, hl, hm, hmm, _, hcell⟩
  · obtain ⟨rfl, rfl, rfl⟩ : a = none ∧ len = 0 ∧ cap = 0 := by simpa [Value.cells] using h0
    exact ⟨[], .inl ⟨.inl rfl, rfl⟩⟩
  · obtain ⟨rfl, rfl, rfl⟩ : a = some a' ∧ len = len' ∧ cap = cap' := by simpa [Value.cells] using h0
    rcases Nat.eq_zero_or_pos len with h5 | h5
    · subst h5
      exact ⟨[], .inl ⟨.inr ⟨_, _, rfl⟩, rfl⟩⟩
    have hm' : m = cap := by simpa using hmm
    subst hm'
    have each : ∀ i, i < len → ∃ q : Am, ∃ u : Value, (∀ j w, (amC q u).toList[j]? = some w → W.cell? (a'.add (i * 10 + j)) = some w) ∧ IntsI W u q.outs ∧ FitsA q := by
      intro i hi
      obtain ⟨cs, c1, t1⟩ := hcell i (by omega)
      rw [k34] at c1
      obtain ⟨_, hlen, hc⟩ := World.cells?_some c1
      obtain ⟨xs, k, hk, _, _, hxl, hfs⟩ := DataW.trod_struct Try.underlying34 t1
      match xs, hxl, cs, hlen with
      | [y0, y1, y2, y3, y4, y5], _, [v0, v1, v2, v3, v4, v5, v6, v7, v8, v9], _ =>
        have g0 := hfs 0 _ rfl
        have g1 := hfs 1 _ rfl
        have g2 := hfs 2 _ rfl
        have g3 := hfs 3 _ rfl
        have g4 := hfs 4 _ rfl
        have g5 := hfs 5 _ rfl
        simp [c3, c4, k31, k32] at g0 g1 g2 g3 g4 g5
        obtain ⟨x0, rfl, b0⟩ := oneI g0
        obtain ⟨x1, rfl, b1⟩ := oneI g1
        obtain ⟨x2, rfl, b2⟩ := oneI g2
        obtain ⟨x3, rfl⟩ := oneB g3
        obtain ⟨o, ho, b4⟩ := open_cells27 (by rfl) g4
        obtain ⟨zs, hz, bz⟩ := open_ints1 g5
        refine ⟨⟨x0, x1, x2, x3, o, zs⟩, v9, fun j w hj => ?_, hz, ⟨b0, b1, b2, b4, bz⟩⟩
        have hl : ([.int .i64 x0, .int .i64 x1, .int .i64 x2, .bool x3, v4, v5, v6, v7, v8, v9] : List Value) = (amC ⟨x0, x1, x2, x3, o, zs⟩ v9).toList := by
          simp only [opC, List.cons.injEq, and_true] at ho
          obtain ⟨rfl, rfl, rfl, rfl, rfl⟩ := ho
          rfl
        rw [← hl] at hj
        have h2 := hc j (by have := (List.getElem?_eq_some_iff.1 hj).1; simpa using this)
        rw [Go.Deep.add_add] at h2
        rw [h2]
        exact hj
    obtain ⟨q, hq⟩ := Go.Deep.choose_lt each
    obtain ⟨b, off, spot⟩ := a'
    have h1 : W.cell? ((⟨b, off, spot⟩ : Addr).add (0 * 10 + 0)) = some (.int .i64 (q 0).kind) := by
      obtain ⟨u, hu, _⟩ := hq 0 h5
      exact hu 0 _ rfl
    have hspot : spot = none := by simpa [Addr.add] using World.cell?_spot h1
    subst hspot
    have hadd := addr_add b off
    refine ⟨(List.range len).map q, .inr ⟨b, off, m, by simp, by simpa using h5, by simpa using hl, ?_, ?_⟩⟩
    · rw [hadd] at h1
      exact World.block_lt_of_cell? W _ h1
    · intro k hk
      obtain ⟨u, hu, g2, g3⟩ := hq k (by simpa using hk)
      simp only [List.getElem_map, List.getElem_range]
      refine ⟨u, fun j v hv => ?_, g2, g3⟩
      have h2 := hu j v hv
      rw [hadd] at h2
      rw [show off + k * 10 + j = off + (k * 10 + j) by omega]
      exact h2
theorem arr22 : Go.WideMaps.ArrKey Try.prog 22 3 3 := ⟨Try.underlying22, by kernel_rfl, by kernel_rfl, by kernel_rfl⟩
set_option maxRecDepth 20000 in
/-- Three numbers that came in. -/
theorem open_cfg {H : Type} {enc : TypeId × Value → H} {W : World} {base : Nat} {v : Value} {d : DataW H} {ps : List MemPlace} (hok : Value.okWide Try.prog W .any base 22 v) (h : DataW.Trod enc Try.prog W 0 (fun _ => true) true 22 v d ps) : ∃ a b c : Int, v = .agg #[.int .i64 a, .int .i64 b, .int .i64 c] ∧ Fits a ∧ Fits b ∧ Fits c := by
  obtain ⟨xs, rfl, hx⟩ := Go.WideMaps.okWide_arr arr22 hok
  obtain ⟨fuel, hf⟩ := h
  obtain ⟨ys, n, _, _, hl, hyl, hi⟩ := DataW.trod_array Try.underlying22 hf
  match xs, hx with
  | ⟨[x0, x1, x2]⟩, _ =>
    match ys, hyl with
    | [y0, y1, y2], _ =>
      have g0 := hi 0 (by omega)
      have g1 := hi 1 (by omega)
      have g2 := hi 2 (by omega)
      simp [c3, Value.cells] at g0 g1 g2
      obtain ⟨a, rfl, w0⟩ := oneI g0
      obtain ⟨b, rfl, w1⟩ := oneI g1
      obtain ⟨c, rfl, w2⟩ := oneI g2
      exact ⟨a, b, c, rfl, w0, w1, w2⟩
set_option maxRecDepth 20000 in
theorem open_ints {H : Type} {enc : TypeId × Value → H} {W : World} {base : Nat} {v : Value} {d : DataW H} {ps : List MemPlace} (hok : Value.okWide Try.prog W .any base 32 v) (h : DataW.Trod enc Try.prog W 0 (fun _ => true) true 32 v d ps) : ∃ xs, IntsI W v xs ∧ ∀ x ∈ xs, Fits x := by
  obtain ⟨a, len, cap, rfl⟩ := okWide_slice Try.underlying32 hok
  obtain ⟨fuel, hf⟩ := h
  exact open_ints1 hf
set_option maxRecDepth 20000 in
theorem open_bool {W : World} {base : Nat} {v : Value} (hok : Value.okWide Try.prog W .any base 4 v) : ∃ a, v = .bool a := okWide_bool Try.underlying4 hok
end Go.Proofs.Ytchaeidmjoelnaa
namespace Go.Proofs.Ytchaeidmjoelnaa
open Go.RowKit

/-- The k-th act, in a world that is as it was below; its outcomes as they came in. -/
theorem ActsI.kth0 {w w' : World} {A : Option Addr} {c k : Nat} {xs : List Am} (h : ActsI w (.slice A xs.length c) xs) (hb : Below w.heap.size w w') (hk : k < xs.length) :
    ∃ b o u, A = some ⟨b, o, none⟩ ∧ w'.rangeAt b (o + k * 10) (amC xs[k] u).toList ∧ IntsI w u xs[k].outs ∧ FitsA xs[k] := by
  rcases h with ⟨_, rfl⟩ | ⟨b, o, c', h1, h2, h3, h4, h5⟩
  · simp at hk
  · injection h1 with h1
    obtain ⟨u, g1, g2, g3⟩ := h5 k hk
    exact ⟨b, o, u, h1, range_under g1 hb h4, g2, g3⟩
theorem IntsI.kthI {w w' : World} {A : Option Addr} {c k : Nat} {xs : List Int} (h : IntsI w (.slice A xs.length c) xs) (hb : Below w.heap.size w w') (hk : k < xs.length) :
    ∃ b o, A = some ⟨b, o, none⟩ ∧ w'.cell? ⟨b, o + k, none⟩ = some (.int .i64 xs[k]) := by
  rcases h with ⟨_, rfl⟩ | ⟨b, o, c', h1, h2, h3, h4, h5⟩
  · simp at hk
  · injection h1 with h1
    exact ⟨b, o, h1, (hb.cell (p := ⟨b, _, none⟩) h4).trans (h5 k hk)⟩
/-- A reply's tick. -/
theorem field44 {cs : Array Value} {t : Int} (h : cs[20]? = some (.int .i64 t)) (w : World) : (Instr.field 44 (.agg cs) 5).run Try.prog w = .ok (.int .i64 t) w := by
  simp [Instr.field, run_underlying Try.underlying44, asAgg, part, h]
theorem op_tick (m : Md) (o : Oc) : (opM m o).1.tick = m.tick := by
  unfold opM
  split <;> rfl
theorem rep_tick (m : Md) (n : Int) : (repC (tickM m n)).setIfInBounds 20 (.int .i64 m.tick) = repC m := rfl
theorem mdn_take {m0 : Md} (h : MdN 0 m0) {xs : List Am} (hg : xs.length ≤ 80 ∧ ∀ a ∈ xs, a.outs.length ≤ 50) (k : Nat) (hk : k ≤ xs.length) : MdN 800 (actsM m0 (xs.take k)) :=
  (h.acts (xs.take k) (fun a ha => by have := hg.2 a (List.mem_of_mem_take ha); omega)).up (by rw [List.length_take]; omega)
theorem mdn_all {m0 : Md} (h : MdN 0 m0) {xs : List Am} (hg : xs.length ≤ 80 ∧ ∀ a ∈ xs, a.outs.length ≤ 50) : MdN 800 (actsM m0 xs) :=
  (h.acts xs (fun a ha => by have := hg.2 a ha; omega)).up (by omega)
end Go.Proofs.Ytchaeidmjoelnaa
