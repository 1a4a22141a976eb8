/-
  switchback's FleetFull: behind each act a slot is full just if its view wants one at least and has as many ready; of no slot are more ready than wanted, or more wanted than 32. For every input the law returns true, and each argument reads afterwards as it read before. No condition beside the row's own.
-/
import Derived.Test.YthgcpijokdbmhaaFleT
import Derived.Deep.LoopGhost
import Derived.Deep.Cut
import Derived.Deep.RegionHeld3
import Derived.Deep.QuietTactic
import Derived.BigQuiet
import Derived.Deep.CutRange
import Derived.Deep.CutBlock
namespace Go.Proofs.Ythgcpijokdbmhaa.fleetFull
open Go.Proofs.Ythgcpijokdbmhaa
open Go.ChangeShapes Go.WideShapes Go.ChangeAt Go.RowKit
set_option linter.unusedVariables false

theorem Row4.all {W : World} {A : Nat} {p q r s : Int} (h : Row4 W A p q r s) : W.cell? ⟨A, 0, none⟩ = some (.int .i64 p) ∧ W.cell? ⟨A, 1, none⟩ = some (.int .i64 q) ∧ W.cell? ⟨A, 2, none⟩ = some (.int .i64 r) ∧ W.cell? ⟨A, 3, none⟩ = some (.int .i64 s) := ⟨h.c0, h.c1, h.c2, h.c3⟩
theorem two_le {F G : FleetIn} (hp : PkgF F) {w W : World} {X : List Nat} {b c : Nat} {k l k' l' : List Bool} (h : Two F G w W X b k l c k' l') : k.length ≤ 32 ∧ l.length ≤ 32 := by
  obtain ⟨O, P, h1, _⟩ := h.ex
  exact hp.le h1
/-- What the view says of a slot that is 0 or 1. -/
theorem full_view (l : List Bool) : fullL l = (decide (0 < (l.length : Int)) && ((cntL l : Int) == (l.length : Int))) := by
  unfold fullL
  by_cases h1 : 0 < l.length <;> by_cases h2 : cntL l = l.length <;> simp [h1, h2] <;> omega
set_option maxRecDepth 100000 in
set_option maxHeartbeats 4000000 in
theorem out_len {F : FleetIn} (hp : PkgF F) (A : Option Addr) (c0 : Nat) (xs : List Ac) (w : World) (h : 300 < xs.length) : Calls Try.prog 6 #[.slice A xs.length c0] w (Holds w) := by
  have HK := Lib.hid hp
  have n3 : decide (300 < (xs.length : Int)) = true := by simp; omega
  have n4 : decide (300 < xs.length) = true := by simp; omega
  clear hp h
  go_enter Try.func6, Try.ntmps6
  go_wp2_with fail
  refine (two_new HK.out w).mono ?_
  rintro e w1 ⟨b, rfl, h⟩
  have H1 := Lib.hid h
  clear h
  go_wp2_with fail
  refine (awake_any HK.out _).mono ?_
  rintro e w2 ⟨rfl, hb⟩
  have H2 := Lib.hid (H1.out.keep HK.out.ks nof_keeps hb).1
  clear hb H1
  go_wp2_with fail
  refine (awake_any HK.out _).mono ?_
  rintro e w4 ⟨rfl, hb⟩
  have H4 := Lib.hid (H2.out.keep HK.out.ks nof_keeps hb).1
  clear hb
  go_wp2
  go_ret
  exact ⟨rfl, H4.out.low⟩
set_option maxRecDepth 100000 in
set_option maxHeartbeats 4000000 in
theorem inside {F : FleetIn} (hp : PkgF F) (A0 : Option Addr) (c0 : Nat) (xs : List Ac) (w : World) (hx : ActsI w (.slice A0 xs.length c0) xs) (h : xs.length ≤ 300) : Calls Try.prog 6 #[.slice A0 xs.length c0] w (Holds w) := by
  have HK := Lib.hid hp
  have HI := Lib.hid hx
  have HLO := Lib.hid h
  have n3 : decide (300 < (xs.length : Int)) = false := by simp; omega
  have n4 : decide (300 < xs.length) = false := by simp; omega
  clear hp hx h
  go_enter Try.func6, Try.ntmps6
  go_wp2_with fail
  refine (two_new HK.out w).mono ?_
  rintro e w1 ⟨b, rfl, h⟩
  have H1 := Lib.hid h
  clear h
  go_wp2_with fail
  refine (awake_any HK.out _).mono ?_
  rintro e w2 ⟨rfl, hb⟩
  have H2 := Lib.hid (H1.out.keep HK.out.ks nof_keeps hb).1
  clear hb H1
  go_wp2
  clear n3 n4
  go_loopg [23] xs.length (fun gg iv wr => ∃ (k : Nat) (y z : List Bool), Hid (gg = xs.length - k) ∧ k ≤ xs.length ∧ iv = .int .i64 (k : Int) ∧ Hid (Two F NoF w wr [] b y z 0 [] []))
  case atStart => exact ⟨0, [], [], Lib.hid rfl, Nat.zero_le _, rfl, H2⟩
  case round =>
    obtain ⟨k, y, z, HGG, hk, rfl, HB⟩ := hrel
    clear H2
    have hk9 : k ≤ 300 := by have := HLO.out; omega
    by_cases hlt : k < xs.length
    case neg =>
      have el : decide ((k : Int) < (xs.length : Int)) = false := by simpa using hlt
      have en : decide (k < xs.length) = false := decide_eq_false hlt
      clear hlt
      go_wp2
      go_ret
      exact ⟨rfl, HB.out.low⟩
    have el : decide ((k : Int) < (xs.length : Int)) = true := by simpa using hlt
    have en : decide (k < xs.length) = true := decide_eq_true hlt
    obtain ⟨B, off, rfl, hL⟩ := HI.out.kth HB.out.low hlt
    obtain ⟨⟨kd, sl, nm, on, p, q⟩, hA⟩ : ∃ A, A = xs[k] := ⟨_, rfl⟩
    rw [← hA] at hL
    obtain ⟨x0, x1, x2, x3, x4, x5⟩ := hL
    simp only at x0 x1 x2 x3 x4 x5
    have HLT := Lib.hid hlt
    clear hA hlt
    go_upto_region 7 with (fail)
    obtain ⟨A, hAb⟩ : ∃ X, X = wr.heap.size := ⟨_, rfl⟩
    rw [← hAb]
    refine name_w (fun W => TA F NoF w W A b y z 0 [] [] kd sl nm on p q) ?_ ?_
    · rw [hAb]
      exact TA.begin HK.out.ks nof_keeps HB.out
    clear hAb HB x0 x1 x2 x3 x4 x5
    rintro w4 h
    have m0 := h.act.c0
    have H4 := Lib.hid h
    clear h
    go_upto_block 2 with (fail)
    go_cut [] from 24 to 100 (fun W => ∃ y2 z2 : List Bool, Hid (TA F NoF w W A b y2 z2 0 [] [] kd sl nm on p q))
    case rest =>
      obtain ⟨y, z, HC⟩ := hcut
      clear H4 m0
      go_wp2_with fail
      refine (ta_view HK.out nof_keeps HC.out).mono ?_
      rw [show viewK y z = .agg #[.int .i64 (y.length : Int), .int .i64 (z.length : Int), .int .i64 (cntL y : Int), .int .i64 (cntL z : Int)] from rfl]
      rintro e w5 ⟨rfl, h⟩
      have H5 := Lib.hid h
      clear h HC
      go_upto_region 15 with (fail)
      obtain ⟨V, hV⟩ : ∃ X, X = w5.heap.size := ⟨_, rfl⟩
      rw [← hV]
      refine name_w (fun W => Two F NoF w W [V] b y z 0 [] [] ∧ Row4 W V y.length z.length (cntL y) (cntL z)) ?_ ?_
      · rw [hV]
        exact ⟨(H5.out.two.alloc HK.out.ks nof_keeps _).fewer (by simp), heap_alloc_new w5 _⟩
      clear hV H5
      rintro w6 h6
      have H6 := Lib.hid h6
      have HL32 : Hid (y.length ≤ 32 ∧ z.length ≤ 32) := Lib.hid (two_le HK.out h6.1)
      clear h6
      go_wp2
      go_loopg [51] 2 (fun gg iv wr => ∃ i : Nat, Hid (gg = 2 - i) ∧ i ≤ 2 ∧ iv = .int .i64 (i : Int) ∧ Hid (Two F NoF w wr [V] b y z 0 [] [] ∧ Row4 wr V y.length z.length (cntL y) (cntL z)))
      case atStart => exact ⟨0, Lib.hid rfl, Nat.zero_le _, rfl, H6⟩
      case round =>
        obtain ⟨i, HG, hi, rfl, HJ⟩ := hrel
        clear H6
        by_cases h2 : i = 2
        case pos =>
          subst h2
          go_wp2
          go_roundg (xs.length - (k + 1))
          case measure => have := HGG.out; have := HLT.out; omega
          case rel => exact ⟨k + 1, y, z, Lib.hid rfl, HLT.out, by go_num, Lib.hid (HJ.out.1.fewer (by simp))⟩
        by_cases h0 : i = 0
        case pos =>
          subst h0
          have e1 : decide ((0 : Int) < 2) = true := by decide
          have HLE := Lib.hid (cnt_le y)
          have hn : decide ((y.length : Int) < (cntL y : Int)) = false := decide_eq_false (by have := HLE.out; omega)
          have hn2 : decide (y.length < cntL y) = false := decide_eq_false (by have := HLE.out; omega)
          have h32 : decide ((32 : Int) < (y.length : Int)) = false := decide_eq_false (by have := HL32.out.1; omega)
          have h33 : decide (32 < y.length) = false := decide_eq_false (by have := HL32.out.1; omega)
          have hc0 : decide ((cntL y : Int) < 0) = false := decide_eq_false (by omega)
          go_upto_region 18 with (fail)
          have y1 := Row4.all (show Row4 wr.drew V _ _ _ _ from HJ.out.2)
          by_cases hz : 0 < y.length
          case neg =>
            have ez : decide (0 < (y.length : Int)) = false := decide_eq_false (by omega)
            have ez2 : decide (0 < y.length) = false := decide_eq_false hz
            have HFU : Hid (fullL (slotK 0 y z) = false) := Lib.hid (by show fullL y = false; unfold fullL; rw [ez2]; rfl)
            clear hz
            refine wp_region_held_drew (S := (fun wx => wx.cell? ⟨V, 0, none⟩ = some (.int .i64 (y.length : Int)) ∧ wx.cell? ⟨V, 1, none⟩ = some (.int .i64 (z.length : Int)) ∧ wx.cell? ⟨V, 2, none⟩ = some (.int .i64 (cntL y : Int)) ∧ wx.cell? ⟨V, 3, none⟩ = some (.int .i64 (cntL z : Int)))) (by kernel_rfl) ?_ (fun hHeld => ?_)
            · exact y1
            refine wpAnyH_take (i := 0) (oi := { dst := some 54, op := Op.move (Operand.tmp 3), type := 23, pos := "law.go:119", after := #[], guard := none }) (v := ?_) rfl (by kernel_rfl) (by kernel_rfl) (by kernel_rfl) (fun _ _ _ h => h) (Or.inl ⟨by rfl, ?_⟩) hHeld ?_
            rotate_left
            · intro w hSw
              (try dsimp only at hSw)
              first | (go_simp; done) | (go_simp; with_reducible rfl)
            (try simp only [Act.put, List.setIfInBounds_toArray, List.set_cons_zero, List.set_cons_succ])
            refine wpAnyH_take (i := 1) (oi := { dst := some 55, op := Op.move (Operand.tmp 7), type := 3, pos := "law.go:119", after := #[], guard := none }) (v := ?_) rfl (by kernel_rfl) (by kernel_rfl) (by kernel_rfl) (fun _ _ _ h => h) (Or.inl ⟨by rfl, ?_⟩) hHeld ?_
            rotate_left
            · intro w hSw
              (try dsimp only at hSw)
              first | (go_simp; done) | (go_simp; with_reducible rfl)
            (try simp only [Act.put, List.setIfInBounds_toArray, List.set_cons_zero, List.set_cons_succ])
            refine wpAnyH_take (i := 3) (oi := { dst := some 57, op := Op.move (Operand.tmp 7), type := 3, pos := "law.go:119", after := #[], guard := none }) (v := ?_) rfl (by kernel_rfl) (by kernel_rfl) (by kernel_rfl) (fun _ _ _ h => h) (Or.inl ⟨by rfl, ?_⟩) hHeld ?_
            rotate_left
            · intro w hSw
              (try dsimp only at hSw)
              first | (go_simp; done) | (go_simp; with_reducible rfl)
            (try simp only [Act.put, List.setIfInBounds_toArray, List.set_cons_zero, List.set_cons_succ])
            refine wpAnyH_take (i := 4) (oi := { dst := some 58, op := Op.fieldAddr 37 (Operand.tmp 6) 0, type := 0, pos := "law.go:119", after := #[], guard := none }) (v := ?_) rfl (by kernel_rfl) (by kernel_rfl) (by kernel_rfl) (fun _ _ _ h => h) (Or.inl ⟨by rfl, ?_⟩) hHeld ?_
            rotate_left
            · intro w hSw
              (try dsimp only at hSw)
              first | (go_simp; done) | (go_simp; with_reducible rfl)
            (try simp only [Act.put, List.setIfInBounds_toArray, List.set_cons_zero, List.set_cons_succ])
            refine wpAnyH_take (i := 5) (oi := { dst := some 59, op := Op.indexAddr 28 (Operand.tmp 58) (Operand.tmp 57), type := 0, pos := "law.go:119", after := #[{ on := 4, ground := Ground.data }, { on := 3, ground := Ground.data }], guard := none }) (v := ?_) rfl (by kernel_rfl) (by kernel_rfl) (by kernel_rfl) (fun _ _ _ h => h) (Or.inl ⟨by rfl, ?_⟩) hHeld ?_
            rotate_left
            · intro w hSw
              (try dsimp only at hSw)
              first | (go_simp; done) | (go_simp; with_reducible rfl)
            (try simp only [Act.put, List.setIfInBounds_toArray, List.set_cons_zero, List.set_cons_succ])
            refine wpAnyH_take (i := 6) (oi := { dst := some 60, op := Op.load 3 (Operand.tmp 59), type := 3, pos := "law.go:119", after := #[{ on := 5, ground := Ground.data }], guard := none }) (v := ?_) rfl (by kernel_rfl) (by kernel_rfl) (by kernel_rfl) (fun _ _ _ h => h) (Or.inl ⟨by rfl, ?_⟩) hHeld ?_
            rotate_left
            · intro w hSw
              (try dsimp only at hSw)
              first | (go_simp; done) | (go_simp; with_reducible rfl)
            (try simp only [Act.put, List.setIfInBounds_toArray, List.set_cons_zero, List.set_cons_succ])
            refine wpAnyH_take (i := 7) (oi := { dst := some 61, op := Op.binOp BinOp.gtr 3 (Operand.tmp 60) (Operand.const (Value.int IntKind.i64 0)) 3, type := 4, pos := "law.go:119", after := #[{ on := 6, ground := Ground.data }], guard := none }) (v := ?_) rfl (by kernel_rfl) (by kernel_rfl) (by kernel_rfl) (fun _ _ _ h => h) (Or.inl ⟨by rfl, ?_⟩) hHeld ?_
            rotate_left
            · intro w hSw
              (try dsimp only at hSw)
              first | (go_simp; done) | (go_simp; with_reducible rfl)
            (try simp only [Act.put, List.setIfInBounds_toArray, List.set_cons_zero, List.set_cons_succ])
            refine wpAnyH_ready (rs := [2]) (by kernel_rfl) (by simp) ?_
            refine AllReadyH.cons (o := { dst := some 56, op := Op.call { callee := Callee.value (Operand.func 19), args := #[Operand.tmp 54, Operand.tmp 55], argTypes := #[23, 3] }, type := 4, pos := "law.go:119", after := #[{ on := 0, ground := Ground.data }, { on := 1, ground := Ground.data }], guard := none }) rfl (fun K hK => ?_) AllReadyH.nil
            go_simp
            go_at_call 19
            refine (two_full HK.out nof_keeps 0 (HJ.out.1.keep HK.out.ks nof_keeps (below_drew1 _)).1).mono ?_
            rw [HFU.out]
            rintro e w8 ⟨rfl, h8, hs8⟩
            have y2 := (Row4.all ((hs8 V (by simp)).trans HJ.out.2))
            refine hK.out _ _ ?_ (fun hHeld => ?_)
            · exact y2
            clear hK K
            (try simp only [Act.put, List.setIfInBounds_toArray, List.set_cons_zero, List.set_cons_succ])
            refine wpAnyH_take (i := 8) (oi := { dst := some 62, op := Op.move (Operand.tmp 61), type := 4, pos := "law.go:119", after := #[{ on := 7, ground := Ground.data }, { on := 2, ground := Ground.chain }], guard := none }) (v := ?_) rfl (by kernel_rfl) (by kernel_rfl) (by kernel_rfl) (fun _ _ _ h => h) (Or.inl ⟨by rfl, ?_⟩) hHeld ?_
            rotate_left
            · intro w hSw
              (try dsimp only at hSw)
              first | (go_simp; done) | (go_simp; with_reducible rfl)
            (try simp only [Act.put, List.setIfInBounds_toArray, List.set_cons_zero, List.set_cons_succ])
            refine wpAnyH_take (i := 9) (oi := { dst := some 63, op := Op.move (Operand.tmp 7), type := 3, pos := "law.go:119", after := #[{ on := 8, ground := Ground.guard }], guard := some (8, true) }) (v := undef) rfl (by kernel_rfl) (by kernel_rfl) (by kernel_rfl) (fun _ _ _ h => h) (Or.inr ⟨by rfl, rfl⟩) hHeld ?_
            (try simp only [Act.put, List.setIfInBounds_toArray, List.set_cons_zero, List.set_cons_succ])
            refine wpAnyH_take (i := 10) (oi := { dst := some 64, op := Op.fieldAddr 37 (Operand.tmp 6) 1, type := 0, pos := "law.go:119", after := #[{ on := 8, ground := Ground.guard }], guard := some (8, true) }) (v := undef) rfl (by kernel_rfl) (by kernel_rfl) (by kernel_rfl) (fun _ _ _ h => h) (Or.inr ⟨by rfl, rfl⟩) hHeld ?_
            (try simp only [Act.put, List.setIfInBounds_toArray, List.set_cons_zero, List.set_cons_succ])
            refine wpAnyH_take (i := 11) (oi := { dst := some 65, op := Op.indexAddr 28 (Operand.tmp 64) (Operand.tmp 63), type := 0, pos := "law.go:119", after := #[{ on := 10, ground := Ground.data }, { on := 9, ground := Ground.data }, { on := 8, ground := Ground.guard }], guard := some (8, true) }) (v := undef) rfl (by kernel_rfl) (by kernel_rfl) (by kernel_rfl) (fun _ _ _ h => h) (Or.inr ⟨by rfl, rfl⟩) hHeld ?_
            (try simp only [Act.put, List.setIfInBounds_toArray, List.set_cons_zero, List.set_cons_succ])
            refine wpAnyH_take (i := 12) (oi := { dst := some 66, op := Op.load 3 (Operand.tmp 65), type := 3, pos := "law.go:119", after := #[{ on := 11, ground := Ground.data }, { on := 8, ground := Ground.guard }], guard := some (8, true) }) (v := undef) rfl (by kernel_rfl) (by kernel_rfl) (by kernel_rfl) (fun _ _ _ h => h) (Or.inr ⟨by rfl, rfl⟩) hHeld ?_
            (try simp only [Act.put, List.setIfInBounds_toArray, List.set_cons_zero, List.set_cons_succ])
            refine wpAnyH_take (i := 13) (oi := { dst := some 67, op := Op.move (Operand.tmp 7), type := 3, pos := "law.go:119", after := #[{ on := 8, ground := Ground.guard }], guard := some (8, true) }) (v := undef) rfl (by kernel_rfl) (by kernel_rfl) (by kernel_rfl) (fun _ _ _ h => h) (Or.inr ⟨by rfl, rfl⟩) hHeld ?_
            (try simp only [Act.put, List.setIfInBounds_toArray, List.set_cons_zero, List.set_cons_succ])
            refine wpAnyH_take (i := 14) (oi := { dst := some 68, op := Op.fieldAddr 37 (Operand.tmp 6) 0, type := 0, pos := "law.go:119", after := #[{ on := 8, ground := Ground.guard }], guard := some (8, true) }) (v := undef) rfl (by kernel_rfl) (by kernel_rfl) (by kernel_rfl) (fun _ _ _ h => h) (Or.inr ⟨by rfl, rfl⟩) hHeld ?_
            (try simp only [Act.put, List.setIfInBounds_toArray, List.set_cons_zero, List.set_cons_succ])
            refine wpAnyH_take (i := 15) (oi := { dst := some 69, op := Op.indexAddr 28 (Operand.tmp 68) (Operand.tmp 67), type := 0, pos := "law.go:119", after := #[{ on := 14, ground := Ground.data }, { on := 13, ground := Ground.data }, { on := 8, ground := Ground.guard }], guard := some (8, true) }) (v := undef) rfl (by kernel_rfl) (by kernel_rfl) (by kernel_rfl) (fun _ _ _ h => h) (Or.inr ⟨by rfl, rfl⟩) hHeld ?_
            (try simp only [Act.put, List.setIfInBounds_toArray, List.set_cons_zero, List.set_cons_succ])
            refine wpAnyH_take (i := 16) (oi := { dst := some 70, op := Op.load 3 (Operand.tmp 69), type := 3, pos := "law.go:119", after := #[{ on := 15, ground := Ground.data }, { on := 8, ground := Ground.guard }], guard := some (8, true) }) (v := undef) rfl (by kernel_rfl) (by kernel_rfl) (by kernel_rfl) (fun _ _ _ h => h) (Or.inr ⟨by rfl, rfl⟩) hHeld ?_
            (try simp only [Act.put, List.setIfInBounds_toArray, List.set_cons_zero, List.set_cons_succ])
            refine wpAnyH_take (i := 17) (oi := { dst := some 71, op := Op.binOp BinOp.eql 3 (Operand.tmp 66) (Operand.tmp 70) 3, type := 4, pos := "law.go:119", after := #[{ on := 12, ground := Ground.data }, { on := 16, ground := Ground.data }, { on := 8, ground := Ground.guard }], guard := some (8, true) }) (v := undef) rfl (by kernel_rfl) (by kernel_rfl) (by kernel_rfl) (fun _ _ _ h => h) (Or.inr ⟨by rfl, rfl⟩) hHeld ?_
            (try simp only [Act.put, List.setIfInBounds_toArray, List.set_cons_zero, List.set_cons_succ])
            refine wpAnyH_take (i := 18) (oi := { dst := some 72, op := Op.pick (Operand.tmp 62) (Operand.tmp 71) (Operand.const (Value.bool false)), type := 4, pos := "law.go:119", after := #[{ on := 8, ground := Ground.data }, { on := 17, ground := Ground.data }], guard := none }) (v := ?_) rfl (by kernel_rfl) (by kernel_rfl) (by kernel_rfl) (fun _ _ _ h => h) (Or.inl ⟨by rfl, ?_⟩) hHeld ?_
            rotate_left
            · intro w hSw
              (try dsimp only at hSw)
              first | (go_simp; done) | (go_simp; with_reducible rfl)
            (try simp only [Act.put, List.setIfInBounds_toArray, List.set_cons_zero, List.set_cons_succ])
            refine wpAnyH_take (i := 19) (oi := { dst := some 73, op := Op.binOp BinOp.neq 4 (Operand.tmp 56) (Operand.tmp 72) 4, type := 4, pos := "law.go:119", after := #[{ on := 2, ground := Ground.data }, { on := 18, ground := Ground.data }], guard := none }) (v := ?_) rfl (by kernel_rfl) (by kernel_rfl) (by kernel_rfl) (fun _ _ _ h => h) (Or.inl ⟨by rfl, ?_⟩) hHeld ?_
            rotate_left
            · intro w hSw
              (try dsimp only at hSw)
              first | (go_simp; done) | (go_simp; with_reducible rfl)
            (try simp only [Act.put, List.setIfInBounds_toArray, List.set_cons_zero, List.set_cons_succ])
            refine wpAnyH_take (i := 20) (oi := { dst := some 74, op := Op.move (Operand.tmp 73), type := 4, pos := "law.go:119", after := #[{ on := 19, ground := Ground.data }, { on := 8, ground := Ground.chain }], guard := none }) (v := ?_) rfl (by kernel_rfl) (by kernel_rfl) (by kernel_rfl) (fun _ _ _ h => h) (Or.inl ⟨by rfl, ?_⟩) hHeld ?_
            rotate_left
            · intro w hSw
              (try dsimp only at hSw)
              first | (go_simp; done) | (go_simp; with_reducible rfl)
            (try simp only [Act.put, List.setIfInBounds_toArray, List.set_cons_zero, List.set_cons_succ])
            refine wpAnyH_take (i := 21) (oi := { dst := some 75, op := Op.move (Operand.tmp 7), type := 3, pos := "law.go:119", after := #[{ on := 20, ground := Ground.guard }], guard := some (20, false) }) (v := ?_) rfl (by kernel_rfl) (by kernel_rfl) (by kernel_rfl) (fun _ _ _ h => h) (Or.inl ⟨by rfl, ?_⟩) hHeld ?_
            rotate_left
            · intro w hSw
              (try dsimp only at hSw)
              first | (go_simp; done) | (go_simp; with_reducible rfl)
            (try simp only [Act.put, List.setIfInBounds_toArray, List.set_cons_zero, List.set_cons_succ])
            refine wpAnyH_take (i := 22) (oi := { dst := some 76, op := Op.fieldAddr 37 (Operand.tmp 6) 1, type := 0, pos := "law.go:119", after := #[{ on := 20, ground := Ground.guard }], guard := some (20, false) }) (v := ?_) rfl (by kernel_rfl) (by kernel_rfl) (by kernel_rfl) (fun _ _ _ h => h) (Or.inl ⟨by rfl, ?_⟩) hHeld ?_
            rotate_left
            · intro w hSw
              (try dsimp only at hSw)
              first | (go_simp; done) | (go_simp; with_reducible rfl)
            (try simp only [Act.put, List.setIfInBounds_toArray, List.set_cons_zero, List.set_cons_succ])
            refine wpAnyH_take (i := 23) (oi := { dst := some 77, op := Op.indexAddr 28 (Operand.tmp 76) (Operand.tmp 75), type := 0, pos := "law.go:119", after := #[{ on := 22, ground := Ground.data }, { on := 21, ground := Ground.data }, { on := 20, ground := Ground.guard }], guard := some (20, false) }) (v := ?_) rfl (by kernel_rfl) (by kernel_rfl) (by kernel_rfl) (fun _ _ _ h => h) (Or.inl ⟨by rfl, ?_⟩) hHeld ?_
            rotate_left
            · intro w hSw
              (try dsimp only at hSw)
              first | (go_simp; done) | (go_simp; with_reducible rfl)
            (try simp only [Act.put, List.setIfInBounds_toArray, List.set_cons_zero, List.set_cons_succ])
            refine wpAnyH_take (i := 24) (oi := { dst := some 78, op := Op.load 3 (Operand.tmp 77), type := 3, pos := "law.go:119", after := #[{ on := 23, ground := Ground.data }, { on := 20, ground := Ground.guard }], guard := some (20, false) }) (v := ?_) rfl (by kernel_rfl) (by kernel_rfl) (by kernel_rfl) (fun _ _ _ h => h) (Or.inl ⟨by rfl, ?_⟩) hHeld ?_
            rotate_left
            · intro w hSw
              (try dsimp only at hSw)
              first | (go_simp; done) | (go_simp; with_reducible rfl)
            (try simp only [Act.put, List.setIfInBounds_toArray, List.set_cons_zero, List.set_cons_succ])
            refine wpAnyH_take (i := 25) (oi := { dst := some 79, op := Op.move (Operand.tmp 7), type := 3, pos := "law.go:119", after := #[{ on := 20, ground := Ground.guard }], guard := some (20, false) }) (v := ?_) rfl (by kernel_rfl) (by kernel_rfl) (by kernel_rfl) (fun _ _ _ h => h) (Or.inl ⟨by rfl, ?_⟩) hHeld ?_
            rotate_left
            · intro w hSw
              (try dsimp only at hSw)
              first | (go_simp; done) | (go_simp; with_reducible rfl)
            (try simp only [Act.put, List.setIfInBounds_toArray, List.set_cons_zero, List.set_cons_succ])
            refine wpAnyH_take (i := 26) (oi := { dst := some 80, op := Op.fieldAddr 37 (Operand.tmp 6) 0, type := 0, pos := "law.go:119", after := #[{ on := 20, ground := Ground.guard }], guard := some (20, false) }) (v := ?_) rfl (by kernel_rfl) (by kernel_rfl) (by kernel_rfl) (fun _ _ _ h => h) (Or.inl ⟨by rfl, ?_⟩) hHeld ?_
            rotate_left
            · intro w hSw
              (try dsimp only at hSw)
              first | (go_simp; done) | (go_simp; with_reducible rfl)
            (try simp only [Act.put, List.setIfInBounds_toArray, List.set_cons_zero, List.set_cons_succ])
            refine wpAnyH_take (i := 27) (oi := { dst := some 81, op := Op.indexAddr 28 (Operand.tmp 80) (Operand.tmp 79), type := 0, pos := "law.go:119", after := #[{ on := 26, ground := Ground.data }, { on := 25, ground := Ground.data }, { on := 20, ground := Ground.guard }], guard := some (20, false) }) (v := ?_) rfl (by kernel_rfl) (by kernel_rfl) (by kernel_rfl) (fun _ _ _ h => h) (Or.inl ⟨by rfl, ?_⟩) hHeld ?_
            rotate_left
            · intro w hSw
              (try dsimp only at hSw)
              first | (go_simp; done) | (go_simp; with_reducible rfl)
            (try simp only [Act.put, List.setIfInBounds_toArray, List.set_cons_zero, List.set_cons_succ])
            refine wpAnyH_take (i := 28) (oi := { dst := some 82, op := Op.load 3 (Operand.tmp 81), type := 3, pos := "law.go:119", after := #[{ on := 27, ground := Ground.data }, { on := 20, ground := Ground.guard }], guard := some (20, false) }) (v := ?_) rfl (by kernel_rfl) (by kernel_rfl) (by kernel_rfl) (fun _ _ _ h => h) (Or.inl ⟨by rfl, ?_⟩) hHeld ?_
            rotate_left
            · intro w hSw
              (try dsimp only at hSw)
              first | (go_simp; done) | (go_simp; with_reducible rfl)
            (try simp only [Act.put, List.setIfInBounds_toArray, List.set_cons_zero, List.set_cons_succ])
            refine wpAnyH_take (i := 29) (oi := { dst := some 83, op := Op.binOp BinOp.gtr 3 (Operand.tmp 78) (Operand.tmp 82) 3, type := 4, pos := "law.go:119", after := #[{ on := 24, ground := Ground.data }, { on := 28, ground := Ground.data }, { on := 20, ground := Ground.guard }], guard := some (20, false) }) (v := ?_) rfl (by kernel_rfl) (by kernel_rfl) (by kernel_rfl) (fun _ _ _ h => h) (Or.inl ⟨by rfl, ?_⟩) hHeld ?_
            rotate_left
            · intro w hSw
              (try dsimp only at hSw)
              first | (go_simp; done) | (go_simp; with_reducible rfl)
            (try simp only [Act.put, List.setIfInBounds_toArray, List.set_cons_zero, List.set_cons_succ])
            refine wpAnyH_take (i := 30) (oi := { dst := some 84, op := Op.pick (Operand.tmp 74) (Operand.const (Value.bool true)) (Operand.tmp 83), type := 4, pos := "law.go:119", after := #[{ on := 20, ground := Ground.data }, { on := 29, ground := Ground.data }], guard := none }) (v := ?_) rfl (by kernel_rfl) (by kernel_rfl) (by kernel_rfl) (fun _ _ _ h => h) (Or.inl ⟨by rfl, ?_⟩) hHeld ?_
            rotate_left
            · intro w hSw
              (try dsimp only at hSw)
              first | (go_simp; done) | (go_simp; with_reducible rfl)
            (try simp only [Act.put, List.setIfInBounds_toArray, List.set_cons_zero, List.set_cons_succ])
            refine wpAnyH_take (i := 31) (oi := { dst := some 85, op := Op.move (Operand.tmp 84), type := 4, pos := "law.go:119", after := #[{ on := 30, ground := Ground.data }, { on := 20, ground := Ground.chain }], guard := none }) (v := ?_) rfl (by kernel_rfl) (by kernel_rfl) (by kernel_rfl) (fun _ _ _ h => h) (Or.inl ⟨by rfl, ?_⟩) hHeld ?_
            rotate_left
            · intro w hSw
              (try dsimp only at hSw)
              first | (go_simp; done) | (go_simp; with_reducible rfl)
            (try simp only [Act.put, List.setIfInBounds_toArray, List.set_cons_zero, List.set_cons_succ])
            refine wpAnyH_take (i := 32) (oi := { dst := some 86, op := Op.move (Operand.tmp 7), type := 3, pos := "law.go:119", after := #[{ on := 31, ground := Ground.guard }], guard := some (31, false) }) (v := ?_) rfl (by kernel_rfl) (by kernel_rfl) (by kernel_rfl) (fun _ _ _ h => h) (Or.inl ⟨by rfl, ?_⟩) hHeld ?_
            rotate_left
            · intro w hSw
              (try dsimp only at hSw)
              first | (go_simp; done) | (go_simp; with_reducible rfl)
            (try simp only [Act.put, List.setIfInBounds_toArray, List.set_cons_zero, List.set_cons_succ])
            refine wpAnyH_take (i := 33) (oi := { dst := some 87, op := Op.fieldAddr 37 (Operand.tmp 6) 1, type := 0, pos := "law.go:119", after := #[{ on := 31, ground := Ground.guard }], guard := some (31, false) }) (v := ?_) rfl (by kernel_rfl) (by kernel_rfl) (by kernel_rfl) (fun _ _ _ h => h) (Or.inl ⟨by rfl, ?_⟩) hHeld ?_
            rotate_left
            · intro w hSw
              (try dsimp only at hSw)
              first | (go_simp; done) | (go_simp; with_reducible rfl)
            (try simp only [Act.put, List.setIfInBounds_toArray, List.set_cons_zero, List.set_cons_succ])
            refine wpAnyH_take (i := 34) (oi := { dst := some 88, op := Op.indexAddr 28 (Operand.tmp 87) (Operand.tmp 86), type := 0, pos := "law.go:119", after := #[{ on := 33, ground := Ground.data }, { on := 32, ground := Ground.data }, { on := 31, ground := Ground.guard }], guard := some (31, false) }) (v := ?_) rfl (by kernel_rfl) (by kernel_rfl) (by kernel_rfl) (fun _ _ _ h => h) (Or.inl ⟨by rfl, ?_⟩) hHeld ?_
            rotate_left
            · intro w hSw
              (try dsimp only at hSw)
              first | (go_simp; done) | (go_simp; with_reducible rfl)
            (try simp only [Act.put, List.setIfInBounds_toArray, List.set_cons_zero, List.set_cons_succ])
            refine wpAnyH_take (i := 35) (oi := { dst := some 89, op := Op.load 3 (Operand.tmp 88), type := 3, pos := "law.go:119", after := #[{ on := 34, ground := Ground.data }, { on := 31, ground := Ground.guard }], guard := some (31, false) }) (v := ?_) rfl (by kernel_rfl) (by kernel_rfl) (by kernel_rfl) (fun _ _ _ h => h) (Or.inl ⟨by rfl, ?_⟩) hHeld ?_
            rotate_left
            · intro w hSw
              (try dsimp only at hSw)
              first | (go_simp; done) | (go_simp; with_reducible rfl)
            (try simp only [Act.put, List.setIfInBounds_toArray, List.set_cons_zero, List.set_cons_succ])
            refine wpAnyH_take (i := 36) (oi := { dst := some 90, op := Op.binOp BinOp.lss 3 (Operand.tmp 89) (Operand.const (Value.int IntKind.i64 0)) 3, type := 4, pos := "law.go:119", after := #[{ on := 35, ground := Ground.data }, { on := 31, ground := Ground.guard }], guard := some (31, false) }) (v := ?_) rfl (by kernel_rfl) (by kernel_rfl) (by kernel_rfl) (fun _ _ _ h => h) (Or.inl ⟨by rfl, ?_⟩) hHeld ?_
            rotate_left
            · intro w hSw
              (try dsimp only at hSw)
              first | (go_simp; done) | (go_simp; with_reducible rfl)
            (try simp only [Act.put, List.setIfInBounds_toArray, List.set_cons_zero, List.set_cons_succ])
            refine wpAnyH_take (i := 37) (oi := { dst := some 91, op := Op.pick (Operand.tmp 85) (Operand.const (Value.bool true)) (Operand.tmp 90), type := 4, pos := "law.go:119", after := #[{ on := 31, ground := Ground.data }, { on := 36, ground := Ground.data }], guard := none }) (v := ?_) rfl (by kernel_rfl) (by kernel_rfl) (by kernel_rfl) (fun _ _ _ h => h) (Or.inl ⟨by rfl, ?_⟩) hHeld ?_
            rotate_left
            · intro w hSw
              (try dsimp only at hSw)
              first | (go_simp; done) | (go_simp; with_reducible rfl)
            (try simp only [Act.put, List.setIfInBounds_toArray, List.set_cons_zero, List.set_cons_succ])
            refine wpAnyH_take (i := 38) (oi := { dst := some 92, op := Op.move (Operand.tmp 91), type := 4, pos := "law.go:119", after := #[{ on := 37, ground := Ground.data }, { on := 31, ground := Ground.chain }], guard := none }) (v := ?_) rfl (by kernel_rfl) (by kernel_rfl) (by kernel_rfl) (fun _ _ _ h => h) (Or.inl ⟨by rfl, ?_⟩) hHeld ?_
            rotate_left
            · intro w hSw
              (try dsimp only at hSw)
              first | (go_simp; done) | (go_simp; with_reducible rfl)
            (try simp only [Act.put, List.setIfInBounds_toArray, List.set_cons_zero, List.set_cons_succ])
            refine wpAnyH_take (i := 39) (oi := { dst := some 93, op := Op.move (Operand.tmp 7), type := 3, pos := "law.go:119", after := #[{ on := 38, ground := Ground.guard }], guard := some (38, false) }) (v := ?_) rfl (by kernel_rfl) (by kernel_rfl) (by kernel_rfl) (fun _ _ _ h => h) (Or.inl ⟨by rfl, ?_⟩) hHeld ?_
            rotate_left
            · intro w hSw
              (try dsimp only at hSw)
              first | (go_simp; done) | (go_simp; with_reducible rfl)
            (try simp only [Act.put, List.setIfInBounds_toArray, List.set_cons_zero, List.set_cons_succ])
            refine wpAnyH_take (i := 40) (oi := { dst := some 94, op := Op.fieldAddr 37 (Operand.tmp 6) 0, type := 0, pos := "law.go:119", after := #[{ on := 38, ground := Ground.guard }], guard := some (38, false) }) (v := ?_) rfl (by kernel_rfl) (by kernel_rfl) (by kernel_rfl) (fun _ _ _ h => h) (Or.inl ⟨by rfl, ?_⟩) hHeld ?_
            rotate_left
            · intro w hSw
              (try dsimp only at hSw)
              first | (go_simp; done) | (go_simp; with_reducible rfl)
            (try simp only [Act.put, List.setIfInBounds_toArray, List.set_cons_zero, List.set_cons_succ])
            refine wpAnyH_take (i := 41) (oi := { dst := some 95, op := Op.indexAddr 28 (Operand.tmp 94) (Operand.tmp 93), type := 0, pos := "law.go:119", after := #[{ on := 40, ground := Ground.data }, { on := 39, ground := Ground.data }, { on := 38, ground := Ground.guard }], guard := some (38, false) }) (v := ?_) rfl (by kernel_rfl) (by kernel_rfl) (by kernel_rfl) (fun _ _ _ h => h) (Or.inl ⟨by rfl, ?_⟩) hHeld ?_
            rotate_left
            · intro w hSw
              (try dsimp only at hSw)
              first | (go_simp; done) | (go_simp; with_reducible rfl)
            (try simp only [Act.put, List.setIfInBounds_toArray, List.set_cons_zero, List.set_cons_succ])
            refine wpAnyH_take (i := 42) (oi := { dst := some 96, op := Op.load 3 (Operand.tmp 95), type := 3, pos := "law.go:119", after := #[{ on := 41, ground := Ground.data }, { on := 38, ground := Ground.guard }], guard := some (38, false) }) (v := ?_) rfl (by kernel_rfl) (by kernel_rfl) (by kernel_rfl) (fun _ _ _ h => h) (Or.inl ⟨by rfl, ?_⟩) hHeld ?_
            rotate_left
            · intro w hSw
              (try dsimp only at hSw)
              first | (go_simp; done) | (go_simp; with_reducible rfl)
            (try simp only [Act.put, List.setIfInBounds_toArray, List.set_cons_zero, List.set_cons_succ])
            refine wpAnyH_take (i := 43) (oi := { dst := some 97, op := Op.binOp BinOp.gtr 3 (Operand.tmp 96) (Operand.const (Value.int IntKind.i64 32)) 3, type := 4, pos := "law.go:119", after := #[{ on := 42, ground := Ground.data }, { on := 38, ground := Ground.guard }], guard := some (38, false) }) (v := ?_) rfl (by kernel_rfl) (by kernel_rfl) (by kernel_rfl) (fun _ _ _ h => h) (Or.inl ⟨by rfl, ?_⟩) hHeld ?_
            rotate_left
            · intro w hSw
              (try dsimp only at hSw)
              first | (go_simp; done) | (go_simp; with_reducible rfl)
            (try simp only [Act.put, List.setIfInBounds_toArray, List.set_cons_zero, List.set_cons_succ])
            refine wpAnyH_take (i := 44) (oi := { dst := some 98, op := Op.pick (Operand.tmp 92) (Operand.const (Value.bool true)) (Operand.tmp 97), type := 4, pos := "law.go:119", after := #[{ on := 38, ground := Ground.data }, { on := 43, ground := Ground.data }], guard := none }) (v := ?_) rfl (by kernel_rfl) (by kernel_rfl) (by kernel_rfl) (fun _ _ _ h => h) (Or.inl ⟨by rfl, ?_⟩) hHeld ?_
            rotate_left
            · intro w hSw
              (try dsimp only at hSw)
              first | (go_simp; done) | (go_simp; with_reducible rfl)
            (try simp only [Act.put, List.setIfInBounds_toArray, List.set_cons_zero, List.set_cons_succ])
            refine wpAnyH_done (by kernel_rfl) ?_ _
            clear y1 y2
            have HJ2 := Lib.hid (And.intro h8 ((hs8 V (by simp)).trans HJ.out.2))
            clear h8 hs8
            go_wp2
            go_roundg (2 - (0 + 1))
            case measure => have := HG.out; omega
            case rel => exact ⟨0 + 1, Lib.hid rfl, by decide, rfl, HJ2⟩
          have ez : decide (0 < (y.length : Int)) = true := decide_eq_true (by omega)
          have ez2 : decide (0 < y.length) = true := decide_eq_true hz
          clear hz
          by_cases hq : cntL y = y.length
          case pos =>
            have eq1 : ((cntL y : Int) == (y.length : Int)) = true := by rw [hq]; exact beq_self_eq_true _
            have eq2 : (cntL y == y.length) = true := by rw [hq]; exact beq_self_eq_true _
            have HFU : Hid (fullL (slotK 0 y z) = true) := Lib.hid (by show fullL y = true; unfold fullL; rw [ez2]; rw [decide_eq_true hq]; rfl)
            clear hq
            go_region_held3 (fun wx => wx.cell? ⟨V, 0, none⟩ = some (.int .i64 (y.length : Int)) ∧ wx.cell? ⟨V, 1, none⟩ = some (.int .i64 (z.length : Int)) ∧ wx.cell? ⟨V, 2, none⟩ = some (.int .i64 (cntL y : Int)) ∧ wx.cell? ⟨V, 3, none⟩ = some (.int .i64 (cntL z : Int))) (first | exact y2 | exact y1) (first | (go_at_call 19; refine (two_full HK.out nof_keeps 0 (HJ.out.1.keep HK.out.ks nof_keeps (below_drew1 _)).1).mono ?_; rw [HFU.out]; rintro e w8 ⟨rfl, h8, hs8⟩; have y2 := (Row4.all ((hs8 V (by simp)).trans HJ.out.2))))
            clear y1 y2
            have HJ2 := Lib.hid (And.intro h8 ((hs8 V (by simp)).trans HJ.out.2))
            clear h8 hs8
            go_wp2
            go_roundg (2 - (0 + 1))
            case measure => have := HG.out; omega
            case rel => exact ⟨0 + 1, Lib.hid rfl, by decide, rfl, HJ2⟩
          have eq1 : ((cntL y : Int) == (y.length : Int)) = false := beq_eq_false_iff_ne.2 (fun e => hq (by omega))
          have eq2 : (cntL y == y.length) = false := beq_eq_false_iff_ne.2 hq
          have HFU : Hid (fullL (slotK 0 y z) = false) := Lib.hid (by show fullL y = false; unfold fullL; rw [ez2]; rw [decide_eq_false hq]; rfl)
          clear hq
          go_region_held3 (fun wx => wx.cell? ⟨V, 0, none⟩ = some (.int .i64 (y.length : Int)) ∧ wx.cell? ⟨V, 1, none⟩ = some (.int .i64 (z.length : Int)) ∧ wx.cell? ⟨V, 2, none⟩ = some (.int .i64 (cntL y : Int)) ∧ wx.cell? ⟨V, 3, none⟩ = some (.int .i64 (cntL z : Int))) (first | exact y2 | exact y1) (first | (go_at_call 19; refine (two_full HK.out nof_keeps 0 (HJ.out.1.keep HK.out.ks nof_keeps (below_drew1 _)).1).mono ?_; rw [HFU.out]; rintro e w8 ⟨rfl, h8, hs8⟩; have y2 := (Row4.all ((hs8 V (by simp)).trans HJ.out.2))))
          clear y1 y2
          have HJ2 := Lib.hid (And.intro h8 ((hs8 V (by simp)).trans HJ.out.2))
          clear h8 hs8
          go_wp2
          go_roundg (2 - (0 + 1))
          case measure => have := HG.out; omega
          case rel => exact ⟨0 + 1, Lib.hid rfl, by decide, rfl, HJ2⟩
        obtain rfl : i = 1 := by omega
        clear h2 h0
        have e1 : decide ((1 : Int) < 2) = true := by decide
        have HLE := Lib.hid (cnt_le z)
        have hn : decide ((z.length : Int) < (cntL z : Int)) = false := decide_eq_false (by have := HLE.out; omega)
        have hn2 : decide (z.length < cntL z) = false := decide_eq_false (by have := HLE.out; omega)
        have h32 : decide ((32 : Int) < (z.length : Int)) = false := decide_eq_false (by have := HL32.out.2; omega)
        have h33 : decide (32 < z.length) = false := decide_eq_false (by have := HL32.out.2; omega)
        have hc0 : decide ((cntL z : Int) < 0) = false := decide_eq_false (by omega)
        go_upto_region 18 with (fail)
        have y1 := Row4.all (show Row4 wr.drew V _ _ _ _ from HJ.out.2)
        by_cases hz : 0 < z.length
        case neg =>
          have ez : decide (0 < (z.length : Int)) = false := decide_eq_false (by omega)
          have ez2 : decide (0 < z.length) = false := decide_eq_false hz
          have HFU : Hid (fullL (slotK 1 y z) = false) := Lib.hid (by show fullL z = false; unfold fullL; rw [ez2]; rfl)
          clear hz
          refine wp_region_held_drew (S := (fun wx => wx.cell? ⟨V, 0, none⟩ = some (.int .i64 (y.length : Int)) ∧ wx.cell? ⟨V, 1, none⟩ = some (.int .i64 (z.length : Int)) ∧ wx.cell? ⟨V, 2, none⟩ = some (.int .i64 (cntL y : Int)) ∧ wx.cell? ⟨V, 3, none⟩ = some (.int .i64 (cntL z : Int)))) (by kernel_rfl) ?_ (fun hHeld => ?_)
          · exact y1
          refine wpAnyH_take (i := 0) (oi := { dst := some 54, op := Op.move (Operand.tmp 3), type := 23, pos := "law.go:119", after := #[], guard := none }) (v := ?_) rfl (by kernel_rfl) (by kernel_rfl) (by kernel_rfl) (fun _ _ _ h => h) (Or.inl ⟨by rfl, ?_⟩) hHeld ?_
          rotate_left
          · intro w hSw
            (try dsimp only at hSw)
            first | (go_simp; done) | (go_simp; with_reducible rfl)
          (try simp only [Act.put, List.setIfInBounds_toArray, List.set_cons_zero, List.set_cons_succ])
          refine wpAnyH_take (i := 1) (oi := { dst := some 55, op := Op.move (Operand.tmp 7), type := 3, pos := "law.go:119", after := #[], guard := none }) (v := ?_) rfl (by kernel_rfl) (by kernel_rfl) (by kernel_rfl) (fun _ _ _ h => h) (Or.inl ⟨by rfl, ?_⟩) hHeld ?_
          rotate_left
          · intro w hSw
            (try dsimp only at hSw)
            first | (go_simp; done) | (go_simp; with_reducible rfl)
          (try simp only [Act.put, List.setIfInBounds_toArray, List.set_cons_zero, List.set_cons_succ])
          refine wpAnyH_take (i := 3) (oi := { dst := some 57, op := Op.move (Operand.tmp 7), type := 3, pos := "law.go:119", after := #[], guard := none }) (v := ?_) rfl (by kernel_rfl) (by kernel_rfl) (by kernel_rfl) (fun _ _ _ h => h) (Or.inl ⟨by rfl, ?_⟩) hHeld ?_
          rotate_left
          · intro w hSw
            (try dsimp only at hSw)
            first | (go_simp; done) | (go_simp; with_reducible rfl)
          (try simp only [Act.put, List.setIfInBounds_toArray, List.set_cons_zero, List.set_cons_succ])
          refine wpAnyH_take (i := 4) (oi := { dst := some 58, op := Op.fieldAddr 37 (Operand.tmp 6) 0, type := 0, pos := "law.go:119", after := #[], guard := none }) (v := ?_) rfl (by kernel_rfl) (by kernel_rfl) (by kernel_rfl) (fun _ _ _ h => h) (Or.inl ⟨by rfl, ?_⟩) hHeld ?_
          rotate_left
          · intro w hSw
            (try dsimp only at hSw)
            first | (go_simp; done) | (go_simp; with_reducible rfl)
          (try simp only [Act.put, List.setIfInBounds_toArray, List.set_cons_zero, List.set_cons_succ])
          refine wpAnyH_take (i := 5) (oi := { dst := some 59, op := Op.indexAddr 28 (Operand.tmp 58) (Operand.tmp 57), type := 0, pos := "law.go:119", after := #[{ on := 4, ground := Ground.data }, { on := 3, ground := Ground.data }], guard := none }) (v := ?_) rfl (by kernel_rfl) (by kernel_rfl) (by kernel_rfl) (fun _ _ _ h => h) (Or.inl ⟨by rfl, ?_⟩) hHeld ?_
          rotate_left
          · intro w hSw
            (try dsimp only at hSw)
            first | (go_simp; done) | (go_simp; with_reducible rfl)
          (try simp only [Act.put, List.setIfInBounds_toArray, List.set_cons_zero, List.set_cons_succ])
          refine wpAnyH_take (i := 6) (oi := { dst := some 60, op := Op.load 3 (Operand.tmp 59), type := 3, pos := "law.go:119", after := #[{ on := 5, ground := Ground.data }], guard := none }) (v := ?_) rfl (by kernel_rfl) (by kernel_rfl) (by kernel_rfl) (fun _ _ _ h => h) (Or.inl ⟨by rfl, ?_⟩) hHeld ?_
          rotate_left
          · intro w hSw
            (try dsimp only at hSw)
            first | (go_simp; done) | (go_simp; with_reducible rfl)
          (try simp only [Act.put, List.setIfInBounds_toArray, List.set_cons_zero, List.set_cons_succ])
          refine wpAnyH_take (i := 7) (oi := { dst := some 61, op := Op.binOp BinOp.gtr 3 (Operand.tmp 60) (Operand.const (Value.int IntKind.i64 0)) 3, type := 4, pos := "law.go:119", after := #[{ on := 6, ground := Ground.data }], guard := none }) (v := ?_) rfl (by kernel_rfl) (by kernel_rfl) (by kernel_rfl) (fun _ _ _ h => h) (Or.inl ⟨by rfl, ?_⟩) hHeld ?_
          rotate_left
          · intro w hSw
            (try dsimp only at hSw)
            first | (go_simp; done) | (go_simp; with_reducible rfl)
          (try simp only [Act.put, List.setIfInBounds_toArray, List.set_cons_zero, List.set_cons_succ])
          refine wpAnyH_ready (rs := [2]) (by kernel_rfl) (by simp) ?_
          refine AllReadyH.cons (o := { dst := some 56, op := Op.call { callee := Callee.value (Operand.func 19), args := #[Operand.tmp 54, Operand.tmp 55], argTypes := #[23, 3] }, type := 4, pos := "law.go:119", after := #[{ on := 0, ground := Ground.data }, { on := 1, ground := Ground.data }], guard := none }) rfl (fun K hK => ?_) AllReadyH.nil
          go_simp
          go_at_call 19
          refine (two_full HK.out nof_keeps 1 (HJ.out.1.keep HK.out.ks nof_keeps (below_drew1 _)).1).mono ?_
          rw [HFU.out]
          rintro e w8 ⟨rfl, h8, hs8⟩
          have y2 := (Row4.all ((hs8 V (by simp)).trans HJ.out.2))
          refine hK.out _ _ ?_ (fun hHeld => ?_)
          · exact y2
          clear hK K
          (try simp only [Act.put, List.setIfInBounds_toArray, List.set_cons_zero, List.set_cons_succ])
          refine wpAnyH_take (i := 8) (oi := { dst := some 62, op := Op.move (Operand.tmp 61), type := 4, pos := "law.go:119", after := #[{ on := 7, ground := Ground.data }, { on := 2, ground := Ground.chain }], guard := none }) (v := ?_) rfl (by kernel_rfl) (by kernel_rfl) (by kernel_rfl) (fun _ _ _ h => h) (Or.inl ⟨by rfl, ?_⟩) hHeld ?_
          rotate_left
          · intro w hSw
            (try dsimp only at hSw)
            first | (go_simp; done) | (go_simp; with_reducible rfl)
          (try simp only [Act.put, List.setIfInBounds_toArray, List.set_cons_zero, List.set_cons_succ])
          refine wpAnyH_take (i := 9) (oi := { dst := some 63, op := Op.move (Operand.tmp 7), type := 3, pos := "law.go:119", after := #[{ on := 8, ground := Ground.guard }], guard := some (8, true) }) (v := undef) rfl (by kernel_rfl) (by kernel_rfl) (by kernel_rfl) (fun _ _ _ h => h) (Or.inr ⟨by rfl, rfl⟩) hHeld ?_
          (try simp only [Act.put, List.setIfInBounds_toArray, List.set_cons_zero, List.set_cons_succ])
          refine wpAnyH_take (i := 10) (oi := { dst := some 64, op := Op.fieldAddr 37 (Operand.tmp 6) 1, type := 0, pos := "law.go:119", after := #[{ on := 8, ground := Ground.guard }], guard := some (8, true) }) (v := undef) rfl (by kernel_rfl) (by kernel_rfl) (by kernel_rfl) (fun _ _ _ h => h) (Or.inr ⟨by rfl, rfl⟩) hHeld ?_
          (try simp only [Act.put, List.setIfInBounds_toArray, List.set_cons_zero, List.set_cons_succ])
          refine wpAnyH_take (i := 11) (oi := { dst := some 65, op := Op.indexAddr 28 (Operand.tmp 64) (Operand.tmp 63), type := 0, pos := "law.go:119", after := #[{ on := 10, ground := Ground.data }, { on := 9, ground := Ground.data }, { on := 8, ground := Ground.guard }], guard := some (8, true) }) (v := undef) rfl (by kernel_rfl) (by kernel_rfl) (by kernel_rfl) (fun _ _ _ h => h) (Or.inr ⟨by rfl, rfl⟩) hHeld ?_
          (try simp only [Act.put, List.setIfInBounds_toArray, List.set_cons_zero, List.set_cons_succ])
          refine wpAnyH_take (i := 12) (oi := { dst := some 66, op := Op.load 3 (Operand.tmp 65), type := 3, pos := "law.go:119", after := #[{ on := 11, ground := Ground.data }, { on := 8, ground := Ground.guard }], guard := some (8, true) }) (v := undef) rfl (by kernel_rfl) (by kernel_rfl) (by kernel_rfl) (fun _ _ _ h => h) (Or.inr ⟨by rfl, rfl⟩) hHeld ?_
          (try simp only [Act.put, List.setIfInBounds_toArray, List.set_cons_zero, List.set_cons_succ])
          refine wpAnyH_take (i := 13) (oi := { dst := some 67, op := Op.move (Operand.tmp 7), type := 3, pos := "law.go:119", after := #[{ on := 8, ground := Ground.guard }], guard := some (8, true) }) (v := undef) rfl (by kernel_rfl) (by kernel_rfl) (by kernel_rfl) (fun _ _ _ h => h) (Or.inr ⟨by rfl, rfl⟩) hHeld ?_
          (try simp only [Act.put, List.setIfInBounds_toArray, List.set_cons_zero, List.set_cons_succ])
          refine wpAnyH_take (i := 14) (oi := { dst := some 68, op := Op.fieldAddr 37 (Operand.tmp 6) 0, type := 0, pos := "law.go:119", after := #[{ on := 8, ground := Ground.guard }], guard := some (8, true) }) (v := undef) rfl (by kernel_rfl) (by kernel_rfl) (by kernel_rfl) (fun _ _ _ h => h) (Or.inr ⟨by rfl, rfl⟩) hHeld ?_
          (try simp only [Act.put, List.setIfInBounds_toArray, List.set_cons_zero, List.set_cons_succ])
          refine wpAnyH_take (i := 15) (oi := { dst := some 69, op := Op.indexAddr 28 (Operand.tmp 68) (Operand.tmp 67), type := 0, pos := "law.go:119", after := #[{ on := 14, ground := Ground.data }, { on := 13, ground := Ground.data }, { on := 8, ground := Ground.guard }], guard := some (8, true) }) (v := undef) rfl (by kernel_rfl) (by kernel_rfl) (by kernel_rfl) (fun _ _ _ h => h) (Or.inr ⟨by rfl, rfl⟩) hHeld ?_
          (try simp only [Act.put, List.setIfInBounds_toArray, List.set_cons_zero, List.set_cons_succ])
          refine wpAnyH_take (i := 16) (oi := { dst := some 70, op := Op.load 3 (Operand.tmp 69), type := 3, pos := "law.go:119", after := #[{ on := 15, ground := Ground.data }, { on := 8, ground := Ground.guard }], guard := some (8, true) }) (v := undef) rfl (by kernel_rfl) (by kernel_rfl) (by kernel_rfl) (fun _ _ _ h => h) (Or.inr ⟨by rfl, rfl⟩) hHeld ?_
          (try simp only [Act.put, List.setIfInBounds_toArray, List.set_cons_zero, List.set_cons_succ])
          refine wpAnyH_take (i := 17) (oi := { dst := some 71, op := Op.binOp BinOp.eql 3 (Operand.tmp 66) (Operand.tmp 70) 3, type := 4, pos := "law.go:119", after := #[{ on := 12, ground := Ground.data }, { on := 16, ground := Ground.data }, { on := 8, ground := Ground.guard }], guard := some (8, true) }) (v := undef) rfl (by kernel_rfl) (by kernel_rfl) (by kernel_rfl) (fun _ _ _ h => h) (Or.inr ⟨by rfl, rfl⟩) hHeld ?_
          (try simp only [Act.put, List.setIfInBounds_toArray, List.set_cons_zero, List.set_cons_succ])
          refine wpAnyH_take (i := 18) (oi := { dst := some 72, op := Op.pick (Operand.tmp 62) (Operand.tmp 71) (Operand.const (Value.bool false)), type := 4, pos := "law.go:119", after := #[{ on := 8, ground := Ground.data }, { on := 17, ground := Ground.data }], guard := none }) (v := ?_) rfl (by kernel_rfl) (by kernel_rfl) (by kernel_rfl) (fun _ _ _ h => h) (Or.inl ⟨by rfl, ?_⟩) hHeld ?_
          rotate_left
          · intro w hSw
            (try dsimp only at hSw)
            first | (go_simp; done) | (go_simp; with_reducible rfl)
          (try simp only [Act.put, List.setIfInBounds_toArray, List.set_cons_zero, List.set_cons_succ])
          refine wpAnyH_take (i := 19) (oi := { dst := some 73, op := Op.binOp BinOp.neq 4 (Operand.tmp 56) (Operand.tmp 72) 4, type := 4, pos := "law.go:119", after := #[{ on := 2, ground := Ground.data }, { on := 18, ground := Ground.data }], guard := none }) (v := ?_) rfl (by kernel_rfl) (by kernel_rfl) (by kernel_rfl) (fun _ _ _ h => h) (Or.inl ⟨by rfl, ?_⟩) hHeld ?_
          rotate_left
          · intro w hSw
            (try dsimp only at hSw)
            first | (go_simp; done) | (go_simp; with_reducible rfl)
          (try simp only [Act.put, List.setIfInBounds_toArray, List.set_cons_zero, List.set_cons_succ])
          refine wpAnyH_take (i := 20) (oi := { dst := some 74, op := Op.move (Operand.tmp 73), type := 4, pos := "law.go:119", after := #[{ on := 19, ground := Ground.data }, { on := 8, ground := Ground.chain }], guard := none }) (v := ?_) rfl (by kernel_rfl) (by kernel_rfl) (by kernel_rfl) (fun _ _ _ h => h) (Or.inl ⟨by rfl, ?_⟩) hHeld ?_
          rotate_left
          · intro w hSw
            (try dsimp only at hSw)
            first | (go_simp; done) | (go_simp; with_reducible rfl)
          (try simp only [Act.put, List.setIfInBounds_toArray, List.set_cons_zero, List.set_cons_succ])
          refine wpAnyH_take (i := 21) (oi := { dst := some 75, op := Op.move (Operand.tmp 7), type := 3, pos := "law.go:119", after := #[{ on := 20, ground := Ground.guard }], guard := some (20, false) }) (v := ?_) rfl (by kernel_rfl) (by kernel_rfl) (by kernel_rfl) (fun _ _ _ h => h) (Or.inl ⟨by rfl, ?_⟩) hHeld ?_
          rotate_left
          · intro w hSw
            (try dsimp only at hSw)
            first | (go_simp; done) | (go_simp; with_reducible rfl)
          (try simp only [Act.put, List.setIfInBounds_toArray, List.set_cons_zero, List.set_cons_succ])
          refine wpAnyH_take (i := 22) (oi := { dst := some 76, op := Op.fieldAddr 37 (Operand.tmp 6) 1, type := 0, pos := "law.go:119", after := #[{ on := 20, ground := Ground.guard }], guard := some (20, false) }) (v := ?_) rfl (by kernel_rfl) (by kernel_rfl) (by kernel_rfl) (fun _ _ _ h => h) (Or.inl ⟨by rfl, ?_⟩) hHeld ?_
          rotate_left
          · intro w hSw
            (try dsimp only at hSw)
            first | (go_simp; done) | (go_simp; with_reducible rfl)
          (try simp only [Act.put, List.setIfInBounds_toArray, List.set_cons_zero, List.set_cons_succ])
          refine wpAnyH_take (i := 23) (oi := { dst := some 77, op := Op.indexAddr 28 (Operand.tmp 76) (Operand.tmp 75), type := 0, pos := "law.go:119", after := #[{ on := 22, ground := Ground.data }, { on := 21, ground := Ground.data }, { on := 20, ground := Ground.guard }], guard := some (20, false) }) (v := ?_) rfl (by kernel_rfl) (by kernel_rfl) (by kernel_rfl) (fun _ _ _ h => h) (Or.inl ⟨by rfl, ?_⟩) hHeld ?_
          rotate_left
          · intro w hSw
            (try dsimp only at hSw)
            first | (go_simp; done) | (go_simp; with_reducible rfl)
          (try simp only [Act.put, List.setIfInBounds_toArray, List.set_cons_zero, List.set_cons_succ])
          refine wpAnyH_take (i := 24) (oi := { dst := some 78, op := Op.load 3 (Operand.tmp 77), type := 3, pos := "law.go:119", after := #[{ on := 23, ground := Ground.data }, { on := 20, ground := Ground.guard }], guard := some (20, false) }) (v := ?_) rfl (by kernel_rfl) (by kernel_rfl) (by kernel_rfl) (fun _ _ _ h => h) (Or.inl ⟨by rfl, ?_⟩) hHeld ?_
          rotate_left
          · intro w hSw
            (try dsimp only at hSw)
            first | (go_simp; done) | (go_simp; with_reducible rfl)
          (try simp only [Act.put, List.setIfInBounds_toArray, List.set_cons_zero, List.set_cons_succ])
          refine wpAnyH_take (i := 25) (oi := { dst := some 79, op := Op.move (Operand.tmp 7), type := 3, pos := "law.go:119", after := #[{ on := 20, ground := Ground.guard }], guard := some (20, false) }) (v := ?_) rfl (by kernel_rfl) (by kernel_rfl) (by kernel_rfl) (fun _ _ _ h => h) (Or.inl ⟨by rfl, ?_⟩) hHeld ?_
          rotate_left
          · intro w hSw
            (try dsimp only at hSw)
            first | (go_simp; done) | (go_simp; with_reducible rfl)
          (try simp only [Act.put, List.setIfInBounds_toArray, List.set_cons_zero, List.set_cons_succ])
          refine wpAnyH_take (i := 26) (oi := { dst := some 80, op := Op.fieldAddr 37 (Operand.tmp 6) 0, type := 0, pos := "law.go:119", after := #[{ on := 20, ground := Ground.guard }], guard := some (20, false) }) (v := ?_) rfl (by kernel_rfl) (by kernel_rfl) (by kernel_rfl) (fun _ _ _ h => h) (Or.inl ⟨by rfl, ?_⟩) hHeld ?_
          rotate_left
          · intro w hSw
            (try dsimp only at hSw)
            first | (go_simp; done) | (go_simp; with_reducible rfl)
          (try simp only [Act.put, List.setIfInBounds_toArray, List.set_cons_zero, List.set_cons_succ])
          refine wpAnyH_take (i := 27) (oi := { dst := some 81, op := Op.indexAddr 28 (Operand.tmp 80) (Operand.tmp 79), type := 0, pos := "law.go:119", after := #[{ on := 26, ground := Ground.data }, { on := 25, ground := Ground.data }, { on := 20, ground := Ground.guard }], guard := some (20, false) }) (v := ?_) rfl (by kernel_rfl) (by kernel_rfl) (by kernel_rfl) (fun _ _ _ h => h) (Or.inl ⟨by rfl, ?_⟩) hHeld ?_
          rotate_left
          · intro w hSw
            (try dsimp only at hSw)
            first | (go_simp; done) | (go_simp; with_reducible rfl)
          (try simp only [Act.put, List.setIfInBounds_toArray, List.set_cons_zero, List.set_cons_succ])
          refine wpAnyH_take (i := 28) (oi := { dst := some 82, op := Op.load 3 (Operand.tmp 81), type := 3, pos := "law.go:119", after := #[{ on := 27, ground := Ground.data }, { on := 20, ground := Ground.guard }], guard := some (20, false) }) (v := ?_) rfl (by kernel_rfl) (by kernel_rfl) (by kernel_rfl) (fun _ _ _ h => h) (Or.inl ⟨by rfl, ?_⟩) hHeld ?_
          rotate_left
          · intro w hSw
            (try dsimp only at hSw)
            first | (go_simp; done) | (go_simp; with_reducible rfl)
          (try simp only [Act.put, List.setIfInBounds_toArray, List.set_cons_zero, List.set_cons_succ])
          refine wpAnyH_take (i := 29) (oi := { dst := some 83, op := Op.binOp BinOp.gtr 3 (Operand.tmp 78) (Operand.tmp 82) 3, type := 4, pos := "law.go:119", after := #[{ on := 24, ground := Ground.data }, { on := 28, ground := Ground.data }, { on := 20, ground := Ground.guard }], guard := some (20, false) }) (v := ?_) rfl (by kernel_rfl) (by kernel_rfl) (by kernel_rfl) (fun _ _ _ h => h) (Or.inl ⟨by rfl, ?_⟩) hHeld ?_
          rotate_left
          · intro w hSw
            (try dsimp only at hSw)
            first | (go_simp; done) | (go_simp; with_reducible rfl)
          (try simp only [Act.put, List.setIfInBounds_toArray, List.set_cons_zero, List.set_cons_succ])
          refine wpAnyH_take (i := 30) (oi := { dst := some 84, op := Op.pick (Operand.tmp 74) (Operand.const (Value.bool true)) (Operand.tmp 83), type := 4, pos := "law.go:119", after := #[{ on := 20, ground := Ground.data }, { on := 29, ground := Ground.data }], guard := none }) (v := ?_) rfl (by kernel_rfl) (by kernel_rfl) (by kernel_rfl) (fun _ _ _ h => h) (Or.inl ⟨by rfl, ?_⟩) hHeld ?_
          rotate_left
          · intro w hSw
            (try dsimp only at hSw)
            first | (go_simp; done) | (go_simp; with_reducible rfl)
          (try simp only [Act.put, List.setIfInBounds_toArray, List.set_cons_zero, List.set_cons_succ])
          refine wpAnyH_take (i := 31) (oi := { dst := some 85, op := Op.move (Operand.tmp 84), type := 4, pos := "law.go:119", after := #[{ on := 30, ground := Ground.data }, { on := 20, ground := Ground.chain }], guard := none }) (v := ?_) rfl (by kernel_rfl) (by kernel_rfl) (by kernel_rfl) (fun _ _ _ h => h) (Or.inl ⟨by rfl, ?_⟩) hHeld ?_
          rotate_left
          · intro w hSw
            (try dsimp only at hSw)
            first | (go_simp; done) | (go_simp; with_reducible rfl)
          (try simp only [Act.put, List.setIfInBounds_toArray, List.set_cons_zero, List.set_cons_succ])
          refine wpAnyH_take (i := 32) (oi := { dst := some 86, op := Op.move (Operand.tmp 7), type := 3, pos := "law.go:119", after := #[{ on := 31, ground := Ground.guard }], guard := some (31, false) }) (v := ?_) rfl (by kernel_rfl) (by kernel_rfl) (by kernel_rfl) (fun _ _ _ h => h) (Or.inl ⟨by rfl, ?_⟩) hHeld ?_
          rotate_left
          · intro w hSw
            (try dsimp only at hSw)
            first | (go_simp; done) | (go_simp; with_reducible rfl)
          (try simp only [Act.put, List.setIfInBounds_toArray, List.set_cons_zero, List.set_cons_succ])
          refine wpAnyH_take (i := 33) (oi := { dst := some 87, op := Op.fieldAddr 37 (Operand.tmp 6) 1, type := 0, pos := "law.go:119", after := #[{ on := 31, ground := Ground.guard }], guard := some (31, false) }) (v := ?_) rfl (by kernel_rfl) (by kernel_rfl) (by kernel_rfl) (fun _ _ _ h => h) (Or.inl ⟨by rfl, ?_⟩) hHeld ?_
          rotate_left
          · intro w hSw
            (try dsimp only at hSw)
            first | (go_simp; done) | (go_simp; with_reducible rfl)
          (try simp only [Act.put, List.setIfInBounds_toArray, List.set_cons_zero, List.set_cons_succ])
          refine wpAnyH_take (i := 34) (oi := { dst := some 88, op := Op.indexAddr 28 (Operand.tmp 87) (Operand.tmp 86), type := 0, pos := "law.go:119", after := #[{ on := 33, ground := Ground.data }, { on := 32, ground := Ground.data }, { on := 31, ground := Ground.guard }], guard := some (31, false) }) (v := ?_) rfl (by kernel_rfl) (by kernel_rfl) (by kernel_rfl) (fun _ _ _ h => h) (Or.inl ⟨by rfl, ?_⟩) hHeld ?_
          rotate_left
          · intro w hSw
            (try dsimp only at hSw)
            first | (go_simp; done) | (go_simp; with_reducible rfl)
          (try simp only [Act.put, List.setIfInBounds_toArray, List.set_cons_zero, List.set_cons_succ])
          refine wpAnyH_take (i := 35) (oi := { dst := some 89, op := Op.load 3 (Operand.tmp 88), type := 3, pos := "law.go:119", after := #[{ on := 34, ground := Ground.data }, { on := 31, ground := Ground.guard }], guard := some (31, false) }) (v := ?_) rfl (by kernel_rfl) (by kernel_rfl) (by kernel_rfl) (fun _ _ _ h => h) (Or.inl ⟨by rfl, ?_⟩) hHeld ?_
          rotate_left
          · intro w hSw
            (try dsimp only at hSw)
            first | (go_simp; done) | (go_simp; with_reducible rfl)
          (try simp only [Act.put, List.setIfInBounds_toArray, List.set_cons_zero, List.set_cons_succ])
          refine wpAnyH_take (i := 36) (oi := { dst := some 90, op := Op.binOp BinOp.lss 3 (Operand.tmp 89) (Operand.const (Value.int IntKind.i64 0)) 3, type := 4, pos := "law.go:119", after := #[{ on := 35, ground := Ground.data }, { on := 31, ground := Ground.guard }], guard := some (31, false) }) (v := ?_) rfl (by kernel_rfl) (by kernel_rfl) (by kernel_rfl) (fun _ _ _ h => h) (Or.inl ⟨by rfl, ?_⟩) hHeld ?_
          rotate_left
          · intro w hSw
            (try dsimp only at hSw)
            first | (go_simp; done) | (go_simp; with_reducible rfl)
          (try simp only [Act.put, List.setIfInBounds_toArray, List.set_cons_zero, List.set_cons_succ])
          refine wpAnyH_take (i := 37) (oi := { dst := some 91, op := Op.pick (Operand.tmp 85) (Operand.const (Value.bool true)) (Operand.tmp 90), type := 4, pos := "law.go:119", after := #[{ on := 31, ground := Ground.data }, { on := 36, ground := Ground.data }], guard := none }) (v := ?_) rfl (by kernel_rfl) (by kernel_rfl) (by kernel_rfl) (fun _ _ _ h => h) (Or.inl ⟨by rfl, ?_⟩) hHeld ?_
          rotate_left
          · intro w hSw
            (try dsimp only at hSw)
            first | (go_simp; done) | (go_simp; with_reducible rfl)
          (try simp only [Act.put, List.setIfInBounds_toArray, List.set_cons_zero, List.set_cons_succ])
          refine wpAnyH_take (i := 38) (oi := { dst := some 92, op := Op.move (Operand.tmp 91), type := 4, pos := "law.go:119", after := #[{ on := 37, ground := Ground.data }, { on := 31, ground := Ground.chain }], guard := none }) (v := ?_) rfl (by kernel_rfl) (by kernel_rfl) (by kernel_rfl) (fun _ _ _ h => h) (Or.inl ⟨by rfl, ?_⟩) hHeld ?_
          rotate_left
          · intro w hSw
            (try dsimp only at hSw)
            first | (go_simp; done) | (go_simp; with_reducible rfl)
          (try simp only [Act.put, List.setIfInBounds_toArray, List.set_cons_zero, List.set_cons_succ])
          refine wpAnyH_take (i := 39) (oi := { dst := some 93, op := Op.move (Operand.tmp 7), type := 3, pos := "law.go:119", after := #[{ on := 38, ground := Ground.guard }], guard := some (38, false) }) (v := ?_) rfl (by kernel_rfl) (by kernel_rfl) (by kernel_rfl) (fun _ _ _ h => h) (Or.inl ⟨by rfl, ?_⟩) hHeld ?_
          rotate_left
          · intro w hSw
            (try dsimp only at hSw)
            first | (go_simp; done) | (go_simp; with_reducible rfl)
          (try simp only [Act.put, List.setIfInBounds_toArray, List.set_cons_zero, List.set_cons_succ])
          refine wpAnyH_take (i := 40) (oi := { dst := some 94, op := Op.fieldAddr 37 (Operand.tmp 6) 0, type := 0, pos := "law.go:119", after := #[{ on := 38, ground := Ground.guard }], guard := some (38, false) }) (v := ?_) rfl (by kernel_rfl) (by kernel_rfl) (by kernel_rfl) (fun _ _ _ h => h) (Or.inl ⟨by rfl, ?_⟩) hHeld ?_
          rotate_left
          · intro w hSw
            (try dsimp only at hSw)
            first | (go_simp; done) | (go_simp; with_reducible rfl)
          (try simp only [Act.put, List.setIfInBounds_toArray, List.set_cons_zero, List.set_cons_succ])
          refine wpAnyH_take (i := 41) (oi := { dst := some 95, op := Op.indexAddr 28 (Operand.tmp 94) (Operand.tmp 93), type := 0, pos := "law.go:119", after := #[{ on := 40, ground := Ground.data }, { on := 39, ground := Ground.data }, { on := 38, ground := Ground.guard }], guard := some (38, false) }) (v := ?_) rfl (by kernel_rfl) (by kernel_rfl) (by kernel_rfl) (fun _ _ _ h => h) (Or.inl ⟨by rfl, ?_⟩) hHeld ?_
          rotate_left
          · intro w hSw
            (try dsimp only at hSw)
            first | (go_simp; done) | (go_simp; with_reducible rfl)
          (try simp only [Act.put, List.setIfInBounds_toArray, List.set_cons_zero, List.set_cons_succ])
          refine wpAnyH_take (i := 42) (oi := { dst := some 96, op := Op.load 3 (Operand.tmp 95), type := 3, pos := "law.go:119", after := #[{ on := 41, ground := Ground.data }, { on := 38, ground := Ground.guard }], guard := some (38, false) }) (v := ?_) rfl (by kernel_rfl) (by kernel_rfl) (by kernel_rfl) (fun _ _ _ h => h) (Or.inl ⟨by rfl, ?_⟩) hHeld ?_
          rotate_left
          · intro w hSw
            (try dsimp only at hSw)
            first | (go_simp; done) | (go_simp; with_reducible rfl)
          (try simp only [Act.put, List.setIfInBounds_toArray, List.set_cons_zero, List.set_cons_succ])
          refine wpAnyH_take (i := 43) (oi := { dst := some 97, op := Op.binOp BinOp.gtr 3 (Operand.tmp 96) (Operand.const (Value.int IntKind.i64 32)) 3, type := 4, pos := "law.go:119", after := #[{ on := 42, ground := Ground.data }, { on := 38, ground := Ground.guard }], guard := some (38, false) }) (v := ?_) rfl (by kernel_rfl) (by kernel_rfl) (by kernel_rfl) (fun _ _ _ h => h) (Or.inl ⟨by rfl, ?_⟩) hHeld ?_
          rotate_left
          · intro w hSw
            (try dsimp only at hSw)
            first | (go_simp; done) | (go_simp; with_reducible rfl)
          (try simp only [Act.put, List.setIfInBounds_toArray, List.set_cons_zero, List.set_cons_succ])
          refine wpAnyH_take (i := 44) (oi := { dst := some 98, op := Op.pick (Operand.tmp 92) (Operand.const (Value.bool true)) (Operand.tmp 97), type := 4, pos := "law.go:119", after := #[{ on := 38, ground := Ground.data }, { on := 43, ground := Ground.data }], guard := none }) (v := ?_) rfl (by kernel_rfl) (by kernel_rfl) (by kernel_rfl) (fun _ _ _ h => h) (Or.inl ⟨by rfl, ?_⟩) hHeld ?_
          rotate_left
          · intro w hSw
            (try dsimp only at hSw)
            first | (go_simp; done) | (go_simp; with_reducible rfl)
          (try simp only [Act.put, List.setIfInBounds_toArray, List.set_cons_zero, List.set_cons_succ])
          refine wpAnyH_done (by kernel_rfl) ?_ _
          clear y1 y2
          have HJ2 := Lib.hid (And.intro h8 ((hs8 V (by simp)).trans HJ.out.2))
          clear h8 hs8
          go_wp2
          go_roundg (2 - (1 + 1))
          case measure => have := HG.out; omega
          case rel => exact ⟨1 + 1, Lib.hid rfl, by decide, rfl, HJ2⟩
        have ez : decide (0 < (z.length : Int)) = true := decide_eq_true (by omega)
        have ez2 : decide (0 < z.length) = true := decide_eq_true hz
        clear hz
        by_cases hq : cntL z = z.length
        case pos =>
          have eq1 : ((cntL z : Int) == (z.length : Int)) = true := by rw [hq]; exact beq_self_eq_true _
          have eq2 : (cntL z == z.length) = true := by rw [hq]; exact beq_self_eq_true _
          have HFU : Hid (fullL (slotK 1 y z) = true) := Lib.hid (by show fullL z = true; unfold fullL; rw [ez2]; rw [decide_eq_true hq]; rfl)
          clear hq
          go_region_held3 (fun wx => wx.cell? ⟨V, 0, none⟩ = some (.int .i64 (y.length : Int)) ∧ wx.cell? ⟨V, 1, none⟩ = some (.int .i64 (z.length : Int)) ∧ wx.cell? ⟨V, 2, none⟩ = some (.int .i64 (cntL y : Int)) ∧ wx.cell? ⟨V, 3, none⟩ = some (.int .i64 (cntL z : Int))) (first | exact y2 | exact y1) (first | (go_at_call 19; refine (two_full HK.out nof_keeps 1 (HJ.out.1.keep HK.out.ks nof_keeps (below_drew1 _)).1).mono ?_; rw [HFU.out]; rintro e w8 ⟨rfl, h8, hs8⟩; have y2 := (Row4.all ((hs8 V (by simp)).trans HJ.out.2))))
          clear y1 y2
          have HJ2 := Lib.hid (And.intro h8 ((hs8 V (by simp)).trans HJ.out.2))
          clear h8 hs8
          go_wp2
          go_roundg (2 - (1 + 1))
          case measure => have := HG.out; omega
          case rel => exact ⟨1 + 1, Lib.hid rfl, by decide, rfl, HJ2⟩
        have eq1 : ((cntL z : Int) == (z.length : Int)) = false := beq_eq_false_iff_ne.2 (fun e => hq (by omega))
        have eq2 : (cntL z == z.length) = false := beq_eq_false_iff_ne.2 hq
        have HFU : Hid (fullL (slotK 1 y z) = false) := Lib.hid (by show fullL z = false; unfold fullL; rw [ez2]; rw [decide_eq_false hq]; rfl)
        clear hq
        go_region_held3 (fun wx => wx.cell? ⟨V, 0, none⟩ = some (.int .i64 (y.length : Int)) ∧ wx.cell? ⟨V, 1, none⟩ = some (.int .i64 (z.length : Int)) ∧ wx.cell? ⟨V, 2, none⟩ = some (.int .i64 (cntL y : Int)) ∧ wx.cell? ⟨V, 3, none⟩ = some (.int .i64 (cntL z : Int))) (first | exact y2 | exact y1) (first | (go_at_call 19; refine (two_full HK.out nof_keeps 1 (HJ.out.1.keep HK.out.ks nof_keeps (below_drew1 _)).1).mono ?_; rw [HFU.out]; rintro e w8 ⟨rfl, h8, hs8⟩; have y2 := (Row4.all ((hs8 V (by simp)).trans HJ.out.2))))
        clear y1 y2
        have HJ2 := Lib.hid (And.intro h8 ((hs8 V (by simp)).trans HJ.out.2))
        clear h8 hs8
        go_wp2
        go_roundg (2 - (1 + 1))
        case measure => have := HG.out; omega
        case rel => exact ⟨1 + 1, Lib.hid rfl, by decide, rfl, HJ2⟩
    case first =>
      by_cases c1 : kd = 1
      case pos =>
        subst c1
        have m4 := H4.out.act.c4
        have m5 := H4.out.act.c5
        go_wp2_with fail
        refine (ta_apply HK.out nof_keeps p q H4.out).mono ?_
        rintro e w5 ⟨rfl, h⟩
        have H5 := Lib.hid h
        clear h H4
        go_wp2
        go_meet
        case rel => exact ⟨_, _, H5⟩
      by_cases c2 : kd = 2
      case pos =>
        subst c2
        have m1 := H4.out.act.c1
        have m2 := H4.out.act.c2
        have m3 := H4.out.act.c3
        go_wp2_with fail
        refine (ta_ready HK.out nof_keeps sl nm on H4.out).mono ?_
        rintro e w5 ⟨rfl, h⟩
        have H5 := Lib.hid h
        clear h H4
        go_wp2
        go_meet
        case rel => exact ⟨_, _, H5⟩
      by_cases c3 : kd = 3
      case pos =>
        subst c3
        go_wp2_with fail
        refine (ta_fill HK.out nof_keeps H4.out).mono ?_
        rintro e w5 ⟨rfl, h⟩
        have H5 := Lib.hid h
        clear h H4
        go_wp2
        go_meet
        case rel => exact ⟨_, _, H5⟩
      have g1 : (kd == 1) = false := beq_eq_false_iff_ne.2 c1
      have g2 : (kd == 2) = false := beq_eq_false_iff_ne.2 c2
      have g3 : (kd == 3) = false := beq_eq_false_iff_ne.2 c3
      clear c1 c2 c3
      go_wp2
      go_meet
      case rel => exact ⟨_, _, H4⟩
theorem walk {F : FleetIn} (hp : PkgF F) (v : Value) (xs : List Ac) (w : World) (hx : ActsI w v xs) : Calls Try.prog 6 #[v] w (Holds w) := by
  obtain ⟨A, c, rfl⟩ := hx.shape
  by_cases h : xs.length ≤ 300
  · exact inside hp A c xs w hx h
  · exact out_len hp A c xs w (by omega)
end Go.Proofs.Ythgcpijokdbmhaa.fleetFull
