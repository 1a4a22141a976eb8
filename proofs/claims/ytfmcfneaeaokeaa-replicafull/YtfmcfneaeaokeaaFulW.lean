/-
  switchback's ReplicaFull: a slot is full just when all of the wanted ones were made ready, in whatever order, and none was made unready since; never, if none is wanted. For every input the law returns true, and each argument reads afterwards as it read before. No condition beside the row's own.
-/
import Derived.Test.YtfmcfneaeaokeaaFulA
import Derived.Test.YtfmcfneaeaokeaaFulB
import Derived.Deep.LoopGhost
import Derived.Deep.Cut
namespace Go.Proofs.Ytfmcfneaeaokeaa.replicaFull
open Go.Proofs.Ytfmcfneaeaokeaa
open Go.ChangeShapes Go.WideShapes Go.ChangeAt Go.RowKit
set_option linter.unusedVariables false

set_option maxRecDepth 100000 in
set_option maxHeartbeats 4000000 in
theorem out_low {R : World → Nat → List Bool → Prop} (hp : Pkg R) (n off : Int) (A : Option Addr) (c : Nat) (xs : List Int) (w : World) (h : n < 0) : Calls Try.prog 4 #[.int .i64 n, .slice A xs.length c, .int .i64 off] w (Holds w) := by
  have HK := Lib.hid hp
  have n1 : decide (n < 0) = true := decide_eq_true h
  clear hp h
  go_enter Try.func4, Try.ntmps4
  go_wp2_with fail
  refine (ps_new HK.out w).mono ?_
  rintro e w1 ⟨b, rfl, h⟩
  have H1 := Lib.hid h
  clear h
  go_wp2_with fail
  refine (awake_any HK.out _).mono ?_
  rintro e w2 ⟨rfl, hb⟩
  have H2 := Lib.hid (H1.out.keep HK.out hb)
  clear hb H1
  go_wp2_with fail
  refine (awake_any HK.out _).mono ?_
  rintro e w3 ⟨rfl, hb⟩
  have H3 := Lib.hid (H2.out.keep HK.out hb)
  clear hb
  go_wp2
  go_ret
  exact ⟨rfl, H3.out.low⟩
set_option maxRecDepth 100000 in
set_option maxHeartbeats 4000000 in
theorem out_high {R : World → Nat → List Bool → Prop} (hp : Pkg R) (n off : Int) (A : Option Addr) (c : Nat) (xs : List Int) (w : World) (h0 : ¬ n < 0) (h : 32 < n) : Calls Try.prog 4 #[.int .i64 n, .slice A xs.length c, .int .i64 off] w (Holds w) := by
  have HK := Lib.hid hp
  have n1 : decide (n < 0) = false := decide_eq_false h0
  have n2 : decide (32 < n) = true := decide_eq_true h
  clear hp h h0
  go_enter Try.func4, Try.ntmps4
  go_wp2_with fail
  refine (ps_new HK.out w).mono ?_
  rintro e w1 ⟨b, rfl, h⟩
  have H1 := Lib.hid h
  clear h
  go_wp2_with fail
  refine (awake_any HK.out _).mono ?_
  rintro e w2 ⟨rfl, hb⟩
  have H2 := Lib.hid (H1.out.keep HK.out hb)
  clear hb H1
  go_wp2_with fail
  refine (awake_any HK.out _).mono ?_
  rintro e w3 ⟨rfl, hb⟩
  have H3 := Lib.hid (H2.out.keep HK.out hb)
  clear hb
  go_wp2
  go_ret
  exact ⟨rfl, H3.out.low⟩
set_option maxRecDepth 100000 in
set_option maxHeartbeats 4000000 in
theorem out_len {R : World → Nat → List Bool → Prop} (hp : Pkg R) (n off : Int) (A : Option Addr) (c : Nat) (xs : List Int) (w : World) (h0 : ¬ n < 0) (h1 : ¬ 32 < n) (h : 300 < xs.length) : Calls Try.prog 4 #[.int .i64 n, .slice A xs.length c, .int .i64 off] w (Holds w) := by
  have HK := Lib.hid hp
  have n1 : decide (n < 0) = false := decide_eq_false h0
  have n2 : decide (32 < n) = false := decide_eq_false h1
  have n3 : decide (300 < (xs.length : Int)) = true := by simp; omega
  have n4 : decide (300 < xs.length) = true := by simp; omega
  clear hp h h0 h1
  go_enter Try.func4, Try.ntmps4
  go_wp2_with fail
  refine (ps_new HK.out w).mono ?_
  rintro e w1 ⟨b, rfl, h⟩
  have H1 := Lib.hid h
  clear h
  go_wp2_with fail
  refine (awake_any HK.out _).mono ?_
  rintro e w2 ⟨rfl, hb⟩
  have H2 := Lib.hid (H1.out.keep HK.out hb)
  clear hb H1
  go_wp2_with fail
  refine (awake_any HK.out _).mono ?_
  rintro e w3 ⟨rfl, hb⟩
  have H3 := Lib.hid (H2.out.keep HK.out hb)
  clear hb
  go_wp2
  go_ret
  exact ⟨rfl, H3.out.low⟩
theorem walk {R : World → Nat → List Bool → Prop} (hp : Pkg R) (n off : Int) (v : Value) (xs : List Int) (w : World) (hx : IntsI w v xs) (hf : ∀ x ∈ xs, Fits x) : Calls Try.prog 4 #[.int .i64 n, v, .int .i64 off] w (Holds w) := by
  obtain ⟨A, c, rfl⟩ := hx.shape
  by_cases h0 : n < 0
  · exact out_low hp n off A c xs w h0
  by_cases h1 : 32 < n
  · exact out_high hp n off A c xs w h0 h1
  by_cases h2 : 300 < xs.length
  · exact out_len hp n off A c xs w h0 h1 h2
  obtain ⟨N, rfl⟩ : ∃ N : Nat, n = N := ⟨n.toNat, by omega⟩
  by_cases h3 : N = 0
  · exact in_none hp N off A c xs w hx hf h3 (by omega) (by omega)
  · exact in_some hp N off A c xs w hx hf (by omega) (by omega) (by omega)
end Go.Proofs.Ytfmcfneaeaokeaa.replicaFull
