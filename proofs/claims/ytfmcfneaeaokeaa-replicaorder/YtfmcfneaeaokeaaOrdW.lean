/-
  switchback's ReplicaOrder: in whatever order replicas are made ready, or unready, each stands as it was made last. For every input the law returns true, and each argument reads afterwards as it read before. No condition beside the row's own.
-/
import Derived.Test.YtfmcfneaeaokeaaOrdG
import Derived.Deep.LoopGhost
import Derived.Deep.Cut
import Derived.Deep.RegionHeld3
namespace Go.Proofs.Ytfmcfneaeaokeaa.replicaOrder
open Go.Proofs.Ytfmcfneaeaokeaa
open Go.ChangeShapes Go.WideShapes Go.ChangeAt Go.RowKit
set_option linter.unusedVariables false

/-- An act of its own in memory. -/
def ActB (W : World) (k : Nat) (kd nm : Int) (on : Bool) : Prop := W.heap[k]? = some (.cells #[.int .i64 kd, .int .i64 nm, .bool on] 31 (0, 0))
section
variable {R : World → Nat → List Bool → Prop} {W W' : World} {k b m n sz : Nat} {kd nm : Int} {on : Bool} {l : List Bool} {g : Int → Option Bool}
theorem ActB.lt (h : ActB W k kd nm on) : k < W.heap.size := lt_of_block h
theorem ActB.c0 (h : ActB W k kd nm on) : W.cell? ⟨k, 0, none⟩ = some (.int .i64 kd) := by rw [cell_of_row W k 0 _ _ _ h]; rfl
theorem ActB.c1 (h : ActB W k kd nm on) : W.cell? ⟨k, 1, none⟩ = some (.int .i64 nm) := by rw [cell_of_row W k 1 _ _ _ h]; rfl
theorem ActB.c2 (h : ActB W k kd nm on) : W.cell? ⟨k, 2, none⟩ = some (.bool on) := by rw [cell_of_row W k 2 _ _ _ h]; rfl
theorem ActB.cs (h : ActB W k kd nm on) : W.cell? ⟨k, 1, none⟩ = some (.int .i64 nm) ∧ W.cell? ⟨k, 2, none⟩ = some (.bool on) := ⟨h.c1, h.c2⟩
theorem ActB.but (hp : Pkg R) (h : ActB W k kd nm on) (hr : R W b l) (hb : But1 b W W') : ActB W' k kd nm on := (hb.block k h.lt (fun e => by
  obtain ⟨c, hc⟩ := hp.kind hr
  unfold ActB at h
  rw [e, hc] at h
  simp at h)).trans h
end
/-- A Set, the map, and an act, behind the world w. -/
structure All3 (R : World → Nat → List Bool → Prop) (w W : World) (b m n A : Nat) (l : List Bool) (g : Int → Option Bool) (sz : Nat) (kd nm : Int) (on : Bool) : Prop where
  ps : PS R w W b l
  map : MapB W m n g sz
  act : ActB W A kd nm on
theorem All3.keep {R : World → Nat → List Bool → Prop} {w W W' : World} {b m n A : Nat} {l : List Bool} {g : Int → Option Bool} {sz : Nat} {kd nm : Int} {on : Bool} (hp : Pkg R) (h : All3 R w W b m n A l g sz kd nm on) (hb : Below W.heap.size W W') : All3 R w W' b m n A l g sz kd nm on :=
  ⟨h.ps.keep hp hb, h.map.keep (hb.block m h.map.lt), (hb.block A h.act.lt).trans h.act⟩
theorem all_ready {R : World → Nat → List Bool → Prop} {w W : World} {b m n A : Nat} {l : List Bool} {g : Int → Option Bool} {sz : Nat} {kd nm : Int} {on : Bool} (hp : Pkg R) (h : All3 R w W b m n A l g sz kd nm on) : Calls Try.prog 11 #[.pointer (some ⟨b, 0, none⟩), .int .i64 nm, .bool on] W fun e w' => e = .returned (.bool (decide (isW l nm))) ∧ All3 R w w' b m n A (readyL l nm on) g sz kd nm on :=
  (ps_ready hp nm on h.ps).mono fun _ _ ⟨he, hr, hb⟩ => ⟨he, hr, h.map.but hp h.ps.r hb, h.act.but hp h.ps.r hb⟩
set_option maxRecDepth 100000 in
set_option maxHeartbeats 4000000 in
theorem out_len {R : World → Nat → List Bool → Prop} (hp : Pkg R) (n : Int) (A : Option Addr) (c : Nat) (xs : List Ac) (w : World) (h : 300 < xs.length) : Calls Try.prog 6 #[.int .i64 n, .slice A xs.length c] w (Holds w) := by
  have HK := Lib.hid hp
  have n3 : decide (300 < (xs.length : Int)) = true := by simp; omega
  have n4 : decide (300 < xs.length) = true := by simp; omega
  clear hp h
  go_enter Try.func6, Try.ntmps6
  go_wp2_with fail
  refine (ps_new HK.out w).mono ?_
  rintro e w1 ⟨b, rfl, h⟩
  have H1 := Lib.hid h
  clear h
  go_wp2_with fail
  refine (awake_any HK.out _).mono ?_
  rintro e w2 ⟨rfl, hb⟩
  have H2 := Lib.hid (H1.out.keep HK.out hb)
  clear hb H1
  go_wp2_with fail
  refine (awake_any HK.out _).mono ?_
  rintro e w3 ⟨rfl, hb⟩
  have H3 := Lib.hid (H2.out.keep HK.out hb)
  clear hb
  go_wp2
  go_ret
  exact ⟨rfl, H3.out.low⟩
set_option maxRecDepth 100000 in
set_option maxHeartbeats 4000000 in
theorem out_low {R : World → Nat → List Bool → Prop} (hp : Pkg R) (n : Int) (A : Option Addr) (c : Nat) (xs : List Ac) (w : World) (h : xs.length ≤ 300) (h0 : n < 0) : Calls Try.prog 6 #[.int .i64 n, .slice A xs.length c] w (Holds w) := by
  have HK := Lib.hid hp
  have n3 : decide (300 < (xs.length : Int)) = false := by simp; omega
  have n4 : decide (300 < xs.length) = false := by simp; omega
  have n1 : decide (n < 0) = true := decide_eq_true h0
  clear hp h h0
  go_enter Try.func6, Try.ntmps6
  go_wp2_with fail
  refine (ps_new HK.out w).mono ?_
  rintro e w1 ⟨b, rfl, h⟩
  have H1 := Lib.hid h
  clear h
  go_wp2_with fail
  refine (awake_any HK.out _).mono ?_
  rintro e w2 ⟨rfl, hb⟩
  have H2 := Lib.hid (H1.out.keep HK.out hb)
  clear hb H1
  go_wp2_with fail
  refine (awake_any HK.out _).mono ?_
  rintro e w3 ⟨rfl, hb⟩
  have H3 := Lib.hid (H2.out.keep HK.out hb)
  clear hb
  go_wp2
  go_ret
  exact ⟨rfl, H3.out.low⟩
set_option maxRecDepth 100000 in
set_option maxHeartbeats 4000000 in
theorem out_high {R : World → Nat → List Bool → Prop} (hp : Pkg R) (n : Int) (A : Option Addr) (c : Nat) (xs : List Ac) (w : World) (h : xs.length ≤ 300) (h0 : ¬ n < 0) (h1 : 32 < n) : Calls Try.prog 6 #[.int .i64 n, .slice A xs.length c] w (Holds w) := by
  have HK := Lib.hid hp
  have n3 : decide (300 < (xs.length : Int)) = false := by simp; omega
  have n4 : decide (300 < xs.length) = false := by simp; omega
  have n1 : decide (n < 0) = false := decide_eq_false h0
  have n2 : decide (32 < n) = true := decide_eq_true h1
  clear hp h h0 h1
  go_enter Try.func6, Try.ntmps6
  go_wp2_with fail
  refine (ps_new HK.out w).mono ?_
  rintro e w1 ⟨b, rfl, h⟩
  have H1 := Lib.hid h
  clear h
  go_wp2_with fail
  refine (awake_any HK.out _).mono ?_
  rintro e w2 ⟨rfl, hb⟩
  have H2 := Lib.hid (H1.out.keep HK.out hb)
  clear hb H1
  go_wp2_with fail
  refine (awake_any HK.out _).mono ?_
  rintro e w3 ⟨rfl, hb⟩
  have H3 := Lib.hid (H2.out.keep HK.out hb)
  clear hb
  go_wp2
  go_ret
  exact ⟨rfl, H3.out.low⟩
theorem below_drew1 (W : World) : Below W.heap.size W W.drew := ⟨rfl, rfl, rfl, Nat.le_refl _, fun _ _ => rfl⟩
theorem seen_le (l : List Bool) (g : Int → Option Bool) (left : Int → Bool) : seenL l g left ≤ l.length := by
  unfold seenL
  have h := List.countP_le_length (p := fun i => l.getD i false && (g i).isSome && !left i) (l := List.range l.length)
  simpa using h
set_option maxRecDepth 100000 in
set_option maxHeartbeats 4000000 in
theorem inside {R : World → Nat → List Bool → Prop} (hp : Pkg R) (N : Nat) (A0 : Option Addr) (c : Nat) (xs : List Ac) (w : World) (hx : ActsI w (.slice A0 xs.length c) xs) (h32 : N ≤ 32) (h : xs.length ≤ 300) : Calls Try.prog 6 #[.int .i64 (N : Int), .slice A0 xs.length c] w (Holds w) := by
  have HK := Lib.hid hp
  have HI := Lib.hid hx
  have HLO := Lib.hid h
  have HN32 := Lib.hid h32
  have n1 : decide ((N : Int) < 0) = false := decide_eq_false (by omega)
  have n2 : decide (32 < (N : Int)) = false := decide_eq_false (by omega)
  have n2' : decide (32 < N) = false := decide_eq_false (by omega)
  have n3 : decide (300 < (xs.length : Int)) = false := by simp; omega
  have n4 : decide (300 < xs.length) = false := by simp; omega
  have hmm := @run_makeMap Try.prog
  clear hp hx h
  go_enter Try.func6, Try.ntmps6
  go_wp2_with fail
  refine (ps_new HK.out w).mono ?_
  rintro e w1 ⟨b, rfl, h⟩
  have H1 := Lib.hid h
  clear h
  go_wp2_with fail
  refine (awake_any HK.out _).mono ?_
  rintro e w2 ⟨rfl, hb⟩
  have H2 := Lib.hid (H1.out.keep HK.out hb)
  clear hb H1
  go_wp2_with fail
  refine (ps_scale HK.out (N : Int) H2.out).mono ?_
  rintro e w3 ⟨rfl, h, hb⟩
  rw [scale_nil N h32] at h
  have H3 := Lib.hid h
  clear h hb H2 n1 n2 n2' n3 n4
  go_upto_region 6 with (fail)
  obtain ⟨m, hm⟩ : ∃ X, X = w3.heap.size := ⟨_, rfl⟩
  rw [← hm]
  refine name_w (fun W => PS R w W b (List.replicate N false) ∧ MapB W m 0 (fun _ => none) 0) ?_ ?_
  · rw [hm]
    exact ⟨H3.out.keep HK.out (below_alloc _ _), mapB_new w3⟩
  have HML : Hid (w.heap.size ≤ m) := Lib.hid (by rw [hm]; exact H3.out.low.size)
  clear hm H3
  rintro w4 ⟨h1, h2⟩
  have HP4 := Lib.hid h1
  have HM4 := Lib.hid h2
  clear h1 h2 hmm
  go_wp2
  go_loopg [39] xs.length (fun gg iv wr => ∃ (k : Nat) (l : List Bool) (g : Int → Option Bool) (sz : Nat), Hid (gg = xs.length - k) ∧ k ≤ xs.length ∧ iv = .int .i64 (k : Int) ∧ Hid (l.length = N) ∧ Hid (LastIs l g) ∧ Hid (PS R w wr b l) ∧ Hid (MapB wr m k g sz))
  case atStart => exact ⟨0, _, _, 0, Lib.hid rfl, Nat.zero_le _, rfl, Lib.hid (by simp), Lib.hid (last_new N), HP4, HM4⟩
  case round =>
    obtain ⟨k, l, g, sz, HGG, hk, rfl, HLN, HLI, HP, HM⟩ := hrel
    clear HP4 HM4
    have hk9 : k ≤ 300 := by have := HLO.out; omega
    by_cases hlt : k < xs.length
    case neg =>
      have el : decide ((k : Int) < (xs.length : Int)) = false := by simpa using hlt
      have en : decide (k < xs.length) = false := decide_eq_false hlt
      obtain ⟨r, hr⟩ : ∃ X, X = wr.heap.size := ⟨_, rfl⟩
      obtain ⟨w5, cnt, hrng, hR, hg5, hs5⟩ := HM.out.range
      rw [← hr] at hrng hR
      have HP5 : Hid (PS R w w5 b l) := Lib.hid (HP.out.keep HK.out ⟨hg5.os, hg5.tape, hg5.output, hg5.size, fun j hj => hg5.block j hj (by simp)⟩)
      have HRL : Hid (w.heap.size ≤ r) := Lib.hid (by rw [hr]; exact HP.out.low.size)
      have HR5 := Lib.hid hR
      clear hlt hr hR hg5 hs5 HP HM
      go_wp2
      go_loopg [9] cnt (fun gg cv wr => ∃ (left : Int → Bool) (cn : Nat), Hid (gg = cn) ∧ cv = .int .i64 (seenL l g left : Int) ∧ Hid (PS R w wr b l) ∧ Hid (RngB wr m r k g left cn))
      case atStart => exact ⟨_, cnt, Lib.hid rfl, by rw [seen_start]; rfl, HP5, HR5⟩
      case round =>
        obtain ⟨left, cn, HG2, rfl, HP, HR⟩ := hrel
        clear HP5 HR5 hrng
        rcases HR.out.next 0 with ⟨h0, hnx⟩ | ⟨x, w6, cn', hl, hnx, hR6, hlt6, hg6, hs6, hen⟩
        · have HSE : Hid (seenL l g left = cntL l) := Lib.hid (seen_end HLI.out h0)
          have HQ1 : Hid (Calls Try.prog 14 #[.pointer (some ⟨b, 0, none⟩)] wr fun e w' => e = .returned (.int .i64 (N : Int)) ∧ wr = w') := Lib.hid (by rw [← HLN.out]; exact HK.out.want HP.out.r)
          have HQ2 : Hid (Calls Try.prog 15 #[.pointer (some ⟨b, 0, none⟩)] wr fun e w' => e = .returned (.int .i64 (seenL l g left : Int)) ∧ wr = w') := Lib.hid (by rw [HSE.out]; exact HK.out.count HP.out.r)
          obtain ⟨cc, hcc⟩ : ∃ x, x = seenL l g left := ⟨_, rfl⟩
          rw [← hcc] at HQ2 ⊢
          clear h0 HSE hcc
          go_wp2_with (first | (go_at_call 14; refine HQ1.out.mono ?_; rintro e w' ⟨rfl, rfl⟩) | (go_at_call 15; refine HQ2.out.mono ?_; rintro e w' ⟨rfl, rfl⟩))
          go_ret
          exact ⟨rfl, HP.out.low⟩
        · have hst := seen_step HLI.out hl (HR.out.inside x hl)
          have hle : seenL l g left ≤ 32 := Nat.le_trans (seen_le _ _ _) (by have := HLN.out; have := HN32.out; omega)
          have HP6 := Lib.hid (HP.out.ranged HK.out HR.out hg6 HRL.out)
          have HR6 := Lib.hid hR6
          have HLT6 := Lib.hid hlt6
          obtain ⟨y, hy⟩ : ∃ y, y = (g x).getD false := ⟨_, rfl⟩
          obtain ⟨cc, hcc⟩ : ∃ x, x = seenL l g left := ⟨_, rfl⟩
          rw [← hy] at hnx hen hst
          rw [← hcc] at hst hle ⊢
          have HST := Lib.hid hst
          clear hst hR6 hlt6 hg6 hs6 hl hy hcc HP HR
          cases y with
          | true =>
            go_wp2
            go_roundg cn'
            case measure => have := HG2.out; have := HLT6.out; omega
            case rel => exact ⟨_, cn', Lib.hid rfl, by rw [HST.out]; go_num, HP6, HR6⟩
          | false =>
            go_wp2
            go_roundg cn'
            case measure => have := HG2.out; have := HLT6.out; omega
            case rel => exact ⟨_, cn', Lib.hid rfl, by rw [HST.out]; rfl, HP6, HR6⟩
    have el : decide ((k : Int) < (xs.length : Int)) = true := by simpa using hlt
    have en : decide (k < xs.length) = true := decide_eq_true hlt
    obtain ⟨B, off, rfl, x0, x1, x2, hfx⟩ := HI.out.kth HP.out.low hlt
    obtain ⟨⟨kd, nm, on⟩, hA⟩ : ∃ A, A = xs[k] := ⟨_, rfl⟩
    rw [← hA] at x0 x1 x2 hfx
    simp only at x0 x1 x2 hfx
    have HFX := Lib.hid hfx
    have HLT := Lib.hid hlt
    clear hA hlt hfx
    go_upto_region 9 with (fail)
    obtain ⟨A, hAb⟩ : ∃ X, X = wr.heap.size := ⟨_, rfl⟩
    rw [← hAb]
    refine name_w (fun W => All3 R w W b m k A l g sz kd nm on) ?_ ?_
    · rw [hAb]
      have bb := below_alloc wr (.cells #[.int .i64 kd, .int .i64 nm, .bool on] 31)
      exact ⟨HP.out.keep HK.out bb, HM.out.keep (bb.block m HM.out.lt), heap_alloc_new wr _⟩
    clear hAb HP HM x0 x1 x2 el en HI
    rintro wa ha
    have HA := Lib.hid ha
    clear ha
    by_cases h0 : nm < 0
    case pos =>
      have e1 : decide (0 ≤ nm) = false := decide_eq_false (by omega)
      have HW : Hid (¬ isW l nm) := Lib.hid (fun h => by unfold isW at h; omega)
      clear h0
      as_aux_lemma =>
        have HC : Hid (∀ V, All3 R w V b m k A l g sz kd nm on → Calls Try.prog 11 #[.pointer (some ⟨b, 0, none⟩), .int .i64 nm, .bool on] V fun e w' => e = .returned (.bool false) ∧ All3 R w w' b m k A (readyL l nm on) g sz kd nm on) := Lib.hid (fun V h => by
          have h5 := all_ready HK.out h
          rw [decide_eq_false HW.out] at h5
          exact h5)
        have y1 := HA.out.act.cs
        go_wp2
        refine wp_region_held_drew (S := (fun wx => wx.cell? ⟨A, 1, none⟩ = some (.int .i64 nm) ∧ wx.cell? ⟨A, 2, none⟩ = some (.bool on))) (by kernel_rfl) ?_ (fun hHeld => ?_)
        · exact y1
        refine wpAnyH_take (i := 0) (oi := { dst := some 43, op := Op.move (Operand.tmp 5), type := 23, pos := "law.go:122", after := #[], guard := none }) (v := ?_) rfl (by kernel_rfl) (by kernel_rfl) (by kernel_rfl) (fun _ _ _ h => h) (Or.inl ⟨by rfl, ?_⟩) hHeld ?_
        rotate_left
        · intro w hSw
          (try dsimp only at hSw)
          first | (go_simp; done) | (go_simp; with_reducible rfl)
        (try simp only [Act.put, List.setIfInBounds_toArray, List.set_cons_zero, List.set_cons_succ])
        refine wpAnyH_take (i := 1) (oi := { dst := some 44, op := Op.fieldAddr 31 (Operand.tmp 8) 1, type := 0, pos := "law.go:122", after := #[], guard := none }) (v := ?_) rfl (by kernel_rfl) (by kernel_rfl) (by kernel_rfl) (fun _ _ _ h => h) (Or.inl ⟨by rfl, ?_⟩) hHeld ?_
        rotate_left
        · intro w hSw
          (try dsimp only at hSw)
          first | (go_simp; done) | (go_simp; with_reducible rfl)
        (try simp only [Act.put, List.setIfInBounds_toArray, List.set_cons_zero, List.set_cons_succ])
        refine wpAnyH_take (i := 2) (oi := { dst := some 45, op := Op.load 3 (Operand.tmp 44), type := 3, pos := "law.go:122", after := #[{ on := 1, ground := Ground.data }], guard := none }) (v := ?_) rfl (by kernel_rfl) (by kernel_rfl) (by kernel_rfl) (fun _ _ _ h => h) (Or.inl ⟨by rfl, ?_⟩) hHeld ?_
        rotate_left
        · intro w hSw
          (try dsimp only at hSw)
          first | (go_simp; done) | (go_simp; with_reducible rfl)
        (try simp only [Act.put, List.setIfInBounds_toArray, List.set_cons_zero, List.set_cons_succ])
        refine wpAnyH_take (i := 3) (oi := { dst := some 46, op := Op.fieldAddr 31 (Operand.tmp 8) 2, type := 0, pos := "law.go:122", after := #[], guard := none }) (v := ?_) rfl (by kernel_rfl) (by kernel_rfl) (by kernel_rfl) (fun _ _ _ h => h) (Or.inl ⟨by rfl, ?_⟩) hHeld ?_
        rotate_left
        · intro w hSw
          (try dsimp only at hSw)
          first | (go_simp; done) | (go_simp; with_reducible rfl)
        (try simp only [Act.put, List.setIfInBounds_toArray, List.set_cons_zero, List.set_cons_succ])
        refine wpAnyH_take (i := 4) (oi := { dst := some 47, op := Op.load 4 (Operand.tmp 46), type := 4, pos := "law.go:122", after := #[{ on := 3, ground := Ground.data }], guard := none }) (v := ?_) rfl (by kernel_rfl) (by kernel_rfl) (by kernel_rfl) (fun _ _ _ h => h) (Or.inl ⟨by rfl, ?_⟩) hHeld ?_
        rotate_left
        · intro w hSw
          (try dsimp only at hSw)
          first | (go_simp; done) | (go_simp; with_reducible rfl)
        (try simp only [Act.put, List.setIfInBounds_toArray, List.set_cons_zero, List.set_cons_succ])
        refine wpAnyH_take (i := 6) (oi := { dst := some 49, op := Op.fieldAddr 31 (Operand.tmp 8) 1, type := 0, pos := "law.go:122", after := #[], guard := none }) (v := ?_) rfl (by kernel_rfl) (by kernel_rfl) (by kernel_rfl) (fun _ _ _ h => h) (Or.inl ⟨by rfl, ?_⟩) hHeld ?_
        rotate_left
        · intro w hSw
          (try dsimp only at hSw)
          first | (go_simp; done) | (go_simp; with_reducible rfl)
        (try simp only [Act.put, List.setIfInBounds_toArray, List.set_cons_zero, List.set_cons_succ])
        refine wpAnyH_take (i := 7) (oi := { dst := some 50, op := Op.load 3 (Operand.tmp 49), type := 3, pos := "law.go:122", after := #[{ on := 6, ground := Ground.data }], guard := none }) (v := ?_) rfl (by kernel_rfl) (by kernel_rfl) (by kernel_rfl) (fun _ _ _ h => h) (Or.inl ⟨by rfl, ?_⟩) hHeld ?_
        rotate_left
        · intro w hSw
          (try dsimp only at hSw)
          first | (go_simp; done) | (go_simp; with_reducible rfl)
        (try simp only [Act.put, List.setIfInBounds_toArray, List.set_cons_zero, List.set_cons_succ])
        refine wpAnyH_take (i := 8) (oi := { dst := some 51, op := Op.binOp BinOp.geq 3 (Operand.tmp 50) (Operand.const (Value.int IntKind.i64 0)) 3, type := 4, pos := "law.go:122", after := #[{ on := 7, ground := Ground.data }], guard := none }) (v := ?_) rfl (by kernel_rfl) (by kernel_rfl) (by kernel_rfl) (fun _ _ _ h => h) (Or.inl ⟨by rfl, ?_⟩) hHeld ?_
        rotate_left
        · intro w hSw
          (try dsimp only at hSw)
          first | (go_simp; done) | (go_simp; with_reducible rfl)
        (try simp only [Act.put, List.setIfInBounds_toArray, List.set_cons_zero, List.set_cons_succ])
        refine wpAnyH_ready (rs := [5]) (by kernel_rfl) (by simp) ?_
        refine AllReadyH.cons (o := { dst := some 48, op := Op.call { callee := Callee.value (Operand.func 11), args := #[Operand.tmp 43, Operand.tmp 45, Operand.tmp 47], argTypes := #[23, 3, 4] }, type := 4, pos := "law.go:122", after := #[{ on := 0, ground := Ground.data }, { on := 2, ground := Ground.data }, { on := 4, ground := Ground.data }], guard := none }) rfl (fun K hK => ?_) AllReadyH.nil
        go_simp
        refine (HC.out _ (HA.out.keep HK.out (below_drew1 _))).mono ?_
        rintro e w7 ⟨rfl, h7⟩
        have y2 := h7.act.cs
        refine hK.out _ _ ?_ (fun hHeld => ?_)
        · exact y2
        clear hK K
        (try simp only [Act.put, List.setIfInBounds_toArray, List.set_cons_zero, List.set_cons_succ])
        refine wpAnyH_take (i := 9) (oi := { dst := some 52, op := Op.move (Operand.tmp 51), type := 4, pos := "law.go:122", after := #[{ on := 8, ground := Ground.data }, { on := 5, ground := Ground.chain }], guard := none }) (v := ?_) rfl (by kernel_rfl) (by kernel_rfl) (by kernel_rfl) (fun _ _ _ h => h) (Or.inl ⟨by rfl, ?_⟩) hHeld ?_
        rotate_left
        · intro w hSw
          (try dsimp only at hSw)
          first | (go_simp; done) | (go_simp; with_reducible rfl)
        (try simp only [Act.put, List.setIfInBounds_toArray, List.set_cons_zero, List.set_cons_succ])
        refine wpAnyH_take (i := 10) (oi := { dst := some 53, op := Op.fieldAddr 31 (Operand.tmp 8) 1, type := 0, pos := "law.go:122", after := #[{ on := 9, ground := Ground.guard }], guard := some (9, true) }) (v := undef) rfl (by kernel_rfl) (by kernel_rfl) (by kernel_rfl) (fun _ _ _ h => h) (Or.inr ⟨by rfl, rfl⟩) hHeld ?_
        (try simp only [Act.put, List.setIfInBounds_toArray, List.set_cons_zero, List.set_cons_succ])
        refine wpAnyH_take (i := 11) (oi := { dst := some 54, op := Op.load 3 (Operand.tmp 53), type := 3, pos := "law.go:122", after := #[{ on := 10, ground := Ground.data }, { on := 9, ground := Ground.guard }], guard := some (9, true) }) (v := undef) rfl (by kernel_rfl) (by kernel_rfl) (by kernel_rfl) (fun _ _ _ h => h) (Or.inr ⟨by rfl, rfl⟩) hHeld ?_
        (try simp only [Act.put, List.setIfInBounds_toArray, List.set_cons_zero, List.set_cons_succ])
        refine wpAnyH_take (i := 12) (oi := { dst := some 55, op := Op.move (Operand.tmp 0), type := 3, pos := "law.go:122", after := #[{ on := 9, ground := Ground.guard }], guard := some (9, true) }) (v := undef) rfl (by kernel_rfl) (by kernel_rfl) (by kernel_rfl) (fun _ _ _ h => h) (Or.inr ⟨by rfl, rfl⟩) hHeld ?_
        (try simp only [Act.put, List.setIfInBounds_toArray, List.set_cons_zero, List.set_cons_succ])
        refine wpAnyH_take (i := 13) (oi := { dst := some 56, op := Op.binOp BinOp.lss 3 (Operand.tmp 54) (Operand.tmp 55) 3, type := 4, pos := "law.go:122", after := #[{ on := 11, ground := Ground.data }, { on := 12, ground := Ground.data }, { on := 9, ground := Ground.guard }], guard := some (9, true) }) (v := undef) rfl (by kernel_rfl) (by kernel_rfl) (by kernel_rfl) (fun _ _ _ h => h) (Or.inr ⟨by rfl, rfl⟩) hHeld ?_
        (try simp only [Act.put, List.setIfInBounds_toArray, List.set_cons_zero, List.set_cons_succ])
        refine wpAnyH_take (i := 14) (oi := { dst := some 57, op := Op.pick (Operand.tmp 52) (Operand.tmp 56) (Operand.const (Value.bool false)), type := 4, pos := "law.go:122", after := #[{ on := 9, ground := Ground.data }, { on := 13, ground := Ground.data }], guard := none }) (v := ?_) rfl (by kernel_rfl) (by kernel_rfl) (by kernel_rfl) (fun _ _ _ h => h) (Or.inl ⟨by rfl, ?_⟩) hHeld ?_
        rotate_left
        · intro w hSw
          (try dsimp only at hSw)
          first | (go_simp; done) | (go_simp; with_reducible rfl)
        (try simp only [Act.put, List.setIfInBounds_toArray, List.set_cons_zero, List.set_cons_succ])
        refine wpAnyH_take (i := 15) (oi := { dst := some 58, op := Op.binOp BinOp.neq 4 (Operand.tmp 48) (Operand.tmp 57) 4, type := 4, pos := "law.go:122", after := #[{ on := 5, ground := Ground.data }, { on := 14, ground := Ground.data }], guard := none }) (v := ?_) rfl (by kernel_rfl) (by kernel_rfl) (by kernel_rfl) (fun _ _ _ h => h) (Or.inl ⟨by rfl, ?_⟩) hHeld ?_
        rotate_left
        · intro w hSw
          (try dsimp only at hSw)
          first | (go_simp; done) | (go_simp; with_reducible rfl)
        (try simp only [Act.put, List.setIfInBounds_toArray, List.set_cons_zero, List.set_cons_succ])
        refine wpAnyH_done (by kernel_rfl) ?_ _
        have HN := Lib.hid h7
        clear h7 y1 y2 HC hHeld
        have HP8 : Hid (PS R w w7 b l) := Lib.hid (by have h5 := HN.out.ps; rw [ready_no HW.out] at h5; exact h5)
        have HM8 := Lib.hid (HN.out.map.mono (Nat.le_succ k))
        have k1 := HN.out.act.c1
        have k2 := HN.out.act.c2
        clear HN HA
        go_wp2
        go_roundg (xs.length - (k + 1))
        case measure => have := HGG.out; have := HLT.out; omega
        case rel => exact ⟨k + 1, l, g, sz, Lib.hid rfl, HLT.out, by go_num, HLN, HLI, HP8, HM8⟩
    have e1 : decide (0 ≤ nm) = true := decide_eq_true (by omega)
    by_cases h1 : nm < (N : Int)
    case pos =>
      have e2 : decide (nm < (N : Int)) = true := decide_eq_true h1
      have HW : Hid (isW l nm) := Lib.hid (by have := HLN.out; unfold isW; omega)
      clear h0 h1
      as_aux_lemma =>
        have HC : Hid (∀ V, All3 R w V b m k A l g sz kd nm on → Calls Try.prog 11 #[.pointer (some ⟨b, 0, none⟩), .int .i64 nm, .bool on] V fun e w' => e = .returned (.bool true) ∧ All3 R w w' b m k A (readyL l nm on) g sz kd nm on) := Lib.hid (fun V h => by
          have h5 := all_ready HK.out h
          rw [decide_eq_true HW.out] at h5
          exact h5)
        have y1 := HA.out.act.cs
        go_wp2
        go_region_held3 (fun wx => wx.cell? ⟨A, 1, none⟩ = some (.int .i64 nm) ∧ wx.cell? ⟨A, 2, none⟩ = some (.bool on)) (first | exact y2 | exact y1) (first | (go_at_call 11; refine (HC.out _ (HA.out.keep HK.out (below_drew1 _))).mono ?_; rintro e w7 ⟨rfl, h7⟩; have y2 := h7.act.cs))
        have HN := Lib.hid h7
        clear h7 y1 y2 HC
        obtain ⟨w8, hrun, hM8, hg8⟩ := HN.out.map.put (by have := HLT.out; omega) HFX.out on
        have HP8 := Lib.hid (HN.out.ps.grown HK.out hg8 (HN.out.map.ne HK.out HN.out.ps.r) HML.out)
        have HM8 := Lib.hid hM8
        have HL8 : Hid (LastIs (readyL l nm on) (fun j => if j = nm then some on else g j)) := Lib.hid (HLI.out.put HW.out on)
        have HN8 : Hid ((readyL l nm on).length = N) := Lib.hid (by rw [readyL_len]; exact HLN.out)
        have k1 := HN.out.act.c1
        have k2 := HN.out.act.c2
        clear hM8 hg8 HN HA
        go_wp2
        go_roundg (xs.length - (k + 1))
        case measure => have := HGG.out; have := HLT.out; omega
        case rel => exact ⟨k + 1, readyL l nm on, _, _, Lib.hid rfl, HLT.out, by go_num, HN8, HL8, HP8, HM8⟩
    have e2 : decide (nm < (N : Int)) = false := decide_eq_false h1
    have HW : Hid (¬ isW l nm) := Lib.hid (fun h => by have := HLN.out; unfold isW at h; omega)
    clear h0 h1
    as_aux_lemma =>
      have HC : Hid (∀ V, All3 R w V b m k A l g sz kd nm on → Calls Try.prog 11 #[.pointer (some ⟨b, 0, none⟩), .int .i64 nm, .bool on] V fun e w' => e = .returned (.bool false) ∧ All3 R w w' b m k A (readyL l nm on) g sz kd nm on) := Lib.hid (fun V h => by
        have h5 := all_ready HK.out h
        rw [decide_eq_false HW.out] at h5
        exact h5)
      have y1 := HA.out.act.cs
      go_wp2
      go_region_held3 (fun wx => wx.cell? ⟨A, 1, none⟩ = some (.int .i64 nm) ∧ wx.cell? ⟨A, 2, none⟩ = some (.bool on)) (first | exact y2 | exact y1) (first | (go_at_call 11; refine (HC.out _ (HA.out.keep HK.out (below_drew1 _))).mono ?_; rintro e w7 ⟨rfl, h7⟩; have y2 := h7.act.cs))
      have HN := Lib.hid h7
      clear h7 y1 y2 HC
      have HP8 : Hid (PS R w w7 b l) := Lib.hid (by have h5 := HN.out.ps; rw [ready_no HW.out] at h5; exact h5)
      have HM8 := Lib.hid (HN.out.map.mono (Nat.le_succ k))
      have k1 := HN.out.act.c1
      have k2 := HN.out.act.c2
      clear HN HA
      go_wp2
      go_roundg (xs.length - (k + 1))
      case measure => have := HGG.out; have := HLT.out; omega
      case rel => exact ⟨k + 1, l, g, sz, Lib.hid rfl, HLT.out, by go_num, HLN, HLI, HP8, HM8⟩
theorem walk {R : World → Nat → List Bool → Prop} (hp : Pkg R) (n : Int) (v : Value) (xs : List Ac) (w : World) (hx : ActsI w v xs) : Calls Try.prog 6 #[.int .i64 n, v] w (Holds w) := by
  obtain ⟨A, c, rfl⟩ := hx.shape
  by_cases h : xs.length ≤ 300
  case neg => exact out_len hp n A c xs w (by omega)
  by_cases h0 : n < 0
  · exact out_low hp n A c xs w h h0
  by_cases h1 : 32 < n
  · exact out_high hp n A c xs w h h0 h1
  obtain ⟨N, rfl⟩ : ∃ N : Nat, n = N := ⟨n.toNat, by omega⟩
  exact inside hp N A c xs w hx (by omega) h
end Go.Proofs.Ytfmcfneaeaokeaa.replicaOrder
