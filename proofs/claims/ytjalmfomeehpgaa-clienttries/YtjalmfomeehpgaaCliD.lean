/-
  Set of a router with its fuse (Pk).
-/
import Derived.Test.YtjalmfomeehpgaaCliB
namespace Go.Proofs.Ytjalmfomeehpgaa
open Go.RowKit

theorem pk_calls (B b g : Nat) (gen slot : Int) (w : World) : CallsAs 22 b gen slot (fun s f W => Pk W B b g s f ∧ Turn B w W) where
  keep := fun s f W W' ⟨h, ht⟩ hb => ⟨h.under hb, ht.trans (.of_below hb h.le)⟩
  call := fun s f n W ⟨h, ht⟩ hd hn => (pk_call B b g s f gen slot W h (hd.fine (by omega)) (hd.wr (by omega))).mono fun e w' ⟨he, hp, hk⟩ => ⟨he, ⟨hp, ht.trans hk⟩, fun k cur hc => hk.kind k cur 33 (by decide) (by decide) (by decide) hc⟩
theorem pk_set (B b g n : Nat) (s : Ro) (f : Fu) (gen slot tries : Int) (w : World) (h : Pk w B b g s f) (hd : Bd n s f) (hn : n + 8 < 1000) :
    Calls Try.prog 10 #[.pointer (some ⟨b, 0, none⟩), .agg #[.int .i64 slot, .int .i64 gen], .int .i64 tries] w fun e w' => ∃ j, SetJ gen slot s f (triesC tries) j ∧ e = .returned (.tuple #[.int .i64 (last gen slot s f j), .int .i64 (j : Int)]) ∧ Pk w' B b g (st gen slot s f j).1 (st gen slot s f j).2 ∧ Turn B w w' :=
  set_any b gen slot tries _ (pk_calls B b g gen slot w) n s f w ⟨h, Turn.refl _ _⟩ hd hn
/-- Where j is known. -/
theorem pk_set_at (B b g n : Nat) (s s' : Ro) (f f' : Fu) (gen slot tries t : Int) (j : Nat) (w : World) (h : Pk w B b g s f) (hd : Bd n s f) (hn : n + 8 < 1000) (hj : SetJ gen slot s f (triesC tries) j) (ht : last gen slot s f j = t) (hs : st gen slot s f j = (s', f')) :
    Calls Try.prog 10 #[.pointer (some ⟨b, 0, none⟩), .agg #[.int .i64 slot, .int .i64 gen], .int .i64 tries] w fun e w' => e = .returned (.tuple #[.int .i64 t, .int .i64 (j : Int)]) ∧ Pk w' B b g s' f' ∧ Turn B w w' :=
  (pk_set B b g n s f gen slot tries w h hd hn).mono fun e w' ⟨i, hi, he, hp, hk⟩ => by
    obtain rfl := hi.uniq hj
    rw [ht] at he
    rw [hs] at hp
    exact ⟨he, hp, hk⟩
end Go.Proofs.Ytjalmfomeehpgaa
