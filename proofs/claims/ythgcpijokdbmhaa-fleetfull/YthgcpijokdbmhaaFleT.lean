/-
  Two fleets in one memory, and an act beside them.
-/
import Derived.Test.YthgcpijokdbmhaaFleG
namespace Go.Proofs.Ythgcpijokdbmhaa
open Go.RowKit

/-- Two fleets, and an act in a block A of its own, behind the world w. -/
structure TA (F G : FleetIn) (w W : World) (A b : Nat) (k l : List Bool) (c : Nat) (k' l' : List Bool) (kd sl nm : Int) (on : Bool) (p q : Int) : Prop where
  two : Two F G w W [A] b k l c k' l'
  act : ActA W A kd sl nm on p q
section
variable {F G : FleetIn} {w W W' : World} {A b c : Nat} {k l k' l' k2 l2 : List Bool} {kd sl nm : Int} {on : Bool} {p q : Int}
theorem TA.begin (hF : Keeps F) (hG : Keeps G) {X : List Nat} (h : Two F G w W X b k l c k' l') : TA F G w (W.alloc (.cells #[.int .i64 kd, .int .i64 sl, .int .i64 nm, .bool on, .int .i64 p, .int .i64 q] 30)) W.heap.size b k l c k' l' kd sl nm on p q :=
  ⟨(h.alloc hF hG _).fewer (by simp), heap_alloc_new W _⟩
theorem TA.low (h : TA F G w W A b k l c k' l' kd sl nm on p q) : Below w.heap.size w W := h.two.low
theorem TA.free (h : TA F G w W A b k l c k' l' kd sl nm on p q) : Two F G w W [] b k l c k' l' := h.two.fewer (by simp)
theorem TA.cs (h : TA F G w W A b k l c k' l' kd sl nm on p q) : W.cell? ⟨A, 1, none⟩ = some (.int .i64 sl) ∧ W.cell? ⟨A, 2, none⟩ = some (.int .i64 nm) ∧ W.cell? ⟨A, 3, none⟩ = some (.bool on) := ⟨h.act.c1, h.act.c2, h.act.c3⟩
theorem TA.keep (hF : Keeps F) (hG : Keeps G) (h : TA F G w W A b k l c k' l' kd sl nm on p q) (hb : Below W.heap.size W W') : TA F G w W' A b k l c k' l' kd sl nm on p q :=
  ⟨(h.two.keep hF hG hb).1, h.act.same (h.two.keep hF hG hb).2 (by simp)⟩
theorem TA.drew (hF : Keeps F) (hG : Keeps G) (h : TA F G w W A b k l c k' l' kd sl nm on p q) : TA F G w W.drew A b k l c k' l' kd sl nm on p q := h.keep hF hG (below_drew1 W)
theorem TA.swap (h : TA F G w W A b k l c k' l' kd sl nm on p q) : TA G F w W A c k' l' b k l kd sl nm on p q := ⟨two_swap h.two, h.act⟩
theorem TA.unslot {x : Nat} {s : Int} (h : TA F (FlS x s) w W A b k l c k' l' kd sl nm on p q) : TA F FlM w W A b k l c k' l' kd sl nm on p q := ⟨h.two.unslot, h.act⟩
theorem ta_apply (hp : PkgF F) (hG : Keeps G) (x y : Int) (h : TA F G w W A b k l c k' l' kd sl nm on p q) : Calls Try.prog 10 #[.pointer (some ⟨b, 0, none⟩), .agg #[.int .i64 x, .int .i64 y]] W fun e w' => e = .returned (.tuple #[]) ∧ TA F G w w' A b (scaleL k x) (scaleL l y) c k' l' kd sl nm on p q :=
  (two_apply hp hG x y h.two).mono fun _ _ ⟨he, h1, hs⟩ => ⟨he, h1, h.act.same hs (by simp)⟩
theorem ta_ready (hp : PkgF F) (hG : Keeps G) (s i : Int) (v : Bool) (h : TA F G w W A b k l c k' l' kd sl nm on p q) : Calls Try.prog 12 #[.pointer (some ⟨b, 0, none⟩), .int .i64 s, .int .i64 i, .bool v] W fun e w' => e = .returned (.bool (decide (isW (slotK s k l) i))) ∧ TA F G w w' A b (rdA k s i v) (rdB l s i v) c k' l' kd sl nm on p q :=
  (two_ready hp hG s i v h.two).mono fun _ _ ⟨he, h1, hs⟩ => ⟨he, h1, h.act.same hs (by simp)⟩
theorem ta_fill (hp : PkgF F) (hG : Keeps G) (h : TA F G w W A b k l c k' l' kd sl nm on p q) : Calls Try.prog 15 #[.pointer (some ⟨b, 0, none⟩)] W fun e w' => e = .returned (.tuple #[]) ∧ TA F G w w' A b (fillL k) (fillL l) c k' l' kd sl nm on p q :=
  (two_fill hp hG h.two).mono fun _ _ ⟨he, h1, hs⟩ => ⟨he, h1, h.act.same hs (by simp)⟩
theorem ta_view (hp : PkgF F) (hG : Keeps G) (h : TA F G w W A b k l c k' l' kd sl nm on p q) : Calls Try.prog 17 #[.pointer (some ⟨b, 0, none⟩)] W fun e w' => e = .returned (viewK k l) ∧ TA F G w w' A b k l c k' l' kd sl nm on p q :=
  (two_view hp hG h.two).mono fun _ _ ⟨he, h1, hs⟩ => ⟨he, h1, h.act.same hs (by simp)⟩
theorem ta_full (hp : PkgF F) (hG : Keeps G) (s : Int) (h : TA F G w W A b k l c k' l' kd sl nm on p q) : Calls Try.prog 19 #[.pointer (some ⟨b, 0, none⟩), .int .i64 s] W fun e w' => e = .returned (.bool (fullL (slotK s k l))) ∧ TA F G w w' A b k l c k' l' kd sl nm on p q :=
  (two_full hp hG s h.two).mono fun _ _ ⟨he, h1, hs⟩ => ⟨he, h1, h.act.same hs (by simp)⟩
theorem tam_apply (hF : Keeps F) (x y : Int) (h : TA F FlM w W A b k l c k' l' kd sl nm on p q) : Calls Try.prog 11 #[.pointer (some ⟨c, 0, none⟩), .agg #[.int .i64 x, .int .i64 y]] W fun e w' => e = .returned (.tuple #[]) ∧ TA F FlM w w' A b k l c (scaleL k' x) (scaleL l' y) kd sl nm on p q :=
  (twom_apply hF x y h.two).mono fun _ _ ⟨he, h1, hs⟩ => ⟨he, h1, h.act.same hs (by simp)⟩
theorem tam_fill (hF : Keeps F) (h : TA F FlM w W A b k l c k' l' kd sl nm on p q) : Calls Try.prog 16 #[.pointer (some ⟨c, 0, none⟩)] W fun e w' => e = .returned (.tuple #[]) ∧ TA F FlM w w' A b k l c (fillL k') (fillL l') kd sl nm on p q :=
  (twom_fill hF h.two).mono fun _ _ ⟨he, h1, hs⟩ => ⟨he, h1, h.act.same hs (by simp)⟩
theorem tam_view (hF : Keeps F) (h : TA F FlM w W A b k l c k' l' kd sl nm on p q) : Calls Try.prog 18 #[.pointer (some ⟨c, 0, none⟩)] W fun e w' => e = .returned (viewK k' l') ∧ TA F FlM w w' A b k l c k' l' kd sl nm on p q :=
  (twom_view hF h.two).mono fun _ _ ⟨he, h1, hs⟩ => ⟨he, h1, h.act.same hs (by simp)⟩
theorem tam_slot (hF : Keeps F) (s : Int) (h : TA F FlM w W A b k l c k' l' kd sl nm on p q) : Calls Try.prog 13 #[.pointer (some ⟨c, 0, none⟩), .int .i64 s] W fun e w' => ∃ x, e = .returned (.pointer (some ⟨x, 0, none⟩)) ∧ TA F (FlS x s) w w' A b k l c k' l' kd sl nm on p q :=
  (twom_slot hF s h.two).mono fun _ _ ⟨x, he, h1, hs⟩ => ⟨x, he, h1, h.act.same hs (by simp)⟩
theorem tam_ready (hF : Keeps F) {x : Nat} {s : Int} (i : Int) (v : Bool) (h : TA F (FlS x s) w W A b k l c k' l' kd sl nm on p q) : Calls Try.prog 14 #[.pointer (some ⟨x, 0, none⟩), .int .i64 i, .bool v] W fun e w' => e = .returned (.bool (decide (isW (slotK s k' l') i))) ∧ TA F FlM w w' A b k l c (rdA k' s i v) (rdB l' s i v) kd sl nm on p q :=
  (twom_ready hF i v h.two).mono fun _ _ ⟨he, h1, hs⟩ => ⟨he, h1, h.act.same hs (by simp)⟩
theorem tam_full (hF : Keeps F) {x : Nat} {s : Int} (h : TA F (FlS x s) w W A b k l c k' l' kd sl nm on p q) : Calls Try.prog 20 #[.pointer (some ⟨x, 0, none⟩)] W fun e w' => e = .returned (.bool (fullL (slotK s k' l'))) ∧ TA F FlM w w' A b k l c k' l' kd sl nm on p q :=
  (twom_full hF h.two).mono fun _ _ ⟨he, h1, hs⟩ => ⟨he, h1, h.act.same hs (by simp)⟩
end
end Go.Proofs.Ythgcpijokdbmhaa
