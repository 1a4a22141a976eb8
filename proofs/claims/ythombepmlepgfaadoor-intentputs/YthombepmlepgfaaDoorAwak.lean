/-
  Layer 9's awake: answers that the document fixes.
-/
import Derived.Test.YthombepmlepgfaaDoorIGet
namespace Go.Proofs.YthombepmlepgfaaDoor
open Go.RowKit

/-- A load of a whole block, where the operation is wanted. -/
theorem wpList_load_any {P : Program} {ops : Array Oper} {rest : List Oper} {o : Oper} {a : Act} {w : World} {Q : Exit → Act → World → Prop} (hw : Region.wanted o (yielded ops a.tmps) = true) (ty : TypeId) (x : Operand) (ho : o.op = .load ty x)
    (g : Nat) (hx : a.eval x = .pointer (some ⟨g, 0, none⟩)) (t : TypeId) (cs : Array Value) (fr : Nat × Nat) (d : TypeDesc) (hg : w.heap[g]? = some (.cells cs t fr))
    (hu : P.underlying ty = some d) (hd : (match d with | .struct _ | .array _ _ => true | _ => false) = true) (hi : (P.info? ty).map (·.size) = some cs.size)
    (h : wpList P ops Q rest (a.put o.dst (.agg cs)) w) : wpList P ops Q (o :: rest) a w :=
  wpList_step fun _ hK => by rw [if_pos hw]; exact wp_load_row ty x ho g hx t cs fr d hg hu hd hi (hK _ _ h)

def r1 : Rc := ⟨1, 300, 2, 0, 0, 0, false, 0, 0, 0, 0, 0, 0, false, false, 0, 0, 0, 0⟩
def r2 : Rc := ⟨2, 0, 0, 0, 1, 0, false, 0, 0, 0, 0, 0, 0, false, false, 0, 0, 0, 0⟩
def r3 : Rc := ⟨12, 0, 0, 0, 0, 0, false, 0, 0, 0, 0, 0, 0, false, false, 0, 0, 0, 0⟩
theorem fits_r1 : FitsR r1 := by constructor <;> (unfold Fits r1; simp)
theorem fits_r2 : FitsR r2 := by constructor <;> (unfold Fits r2; simp)
theorem fits_r3 : FitsR r3 := by constructor <;> (unfold Fits r3; simp)
theorem enc300 : enc 300 = [172, 2] := by rw [enc_high (by omega), enc_low (by omega)]; rfl
theorem encs_r1 : encs [1, 300, 2, 0] = [1, 172, 2, 2, 0] := by
  simp only [encs, List.flatMap_cons, List.flatMap_nil, enc300, enc_low (n := 1) (by omega), enc_low (n := 2) (by omega), enc_low (n := 0) (by omega)]
  rfl
theorem encs_50 : encs [5, 0] = [5, 0] := by
  simp only [encs, List.flatMap_cons, List.flatMap_nil, enc_low (n := 5) (by omega), enc_low (n := 0) (by omega)]
  rfl
theorem rput_r1 : rput r1 = (⟨#[1, 172, 2, 2, 0]⟩, 0) := by
  have h1 : rput r1 = (putS [1, 300, 2, 0], 0) := rfl
  have h2 : putS [1, 300, 2, 0] = ⟨(encs (nats [1, 300, 2, 0])).toArray⟩ := rfl
  rw [h1, h2, show nats [1, 300, 2, 0] = [1, 300, 2, 0] from rfl, encs_r1]
theorem rget_r1 : rget (⟨#[1, 172, 2, 2, 0]⟩ : ByteArray).data.toList = (r1, 0) := by
  have h1 := rget_rput (r := r1) (by rw [rput_r1])
  rw [rput_r1] at h1
  exact h1
theorem rput_r2 : rput r2 = (⟨#[]⟩, 4) := rfl
theorem rput_r3 : rput r3 = (⟨#[]⟩, 6) := rfl
theorem rget_50 : rget (⟨#[5, 0]⟩ : ByteArray).data.toList = (zeroR, 1) := by
  have h1 := gets_back (ns := [5, 0]) (by intro n hn; simp at hn; omega)
  rw [encs_50] at h1
  show rgot (gets [] [5, 0]) = _
  rw [h1]
  rfl

theorem aw_p1 (W : World) (h : Gl W) : Calls Tryd.prog 9 #[recV r1] W fun e w' => e = .returned (.tuple #[.string ⟨#[1, 172, 2, 2, 0]⟩, .int .i64 0]) ∧ Below W.heap.size W w' := by
  have h1 := iput_any r1 W fits_r1 h
  unfold PutR at h1
  rw [rput_r1] at h1
  exact h1
theorem aw_p2 (W : World) (h : Gl W) : Calls Tryd.prog 9 #[recV r2] W fun e w' => e = .returned (.tuple #[.string ⟨#[]⟩, .int .i64 4]) ∧ Below W.heap.size W w' := by
  have h1 := iput_any r2 W fits_r2 h
  unfold PutR at h1
  rw [rput_r2] at h1
  exact h1
theorem aw_p3 (W : World) (h : Gl W) : Calls Tryd.prog 9 #[recV r3] W fun e w' => e = .returned (.tuple #[.string ⟨#[]⟩, .int .i64 6]) ∧ Below W.heap.size W w' := by
  have h1 := iput_any r3 W fits_r3 h
  unfold PutR at h1
  rw [rput_r3] at h1
  exact h1
theorem aw_g1 (W : World) (h : Gl W) : Calls Tryd.prog 12 #[.string ⟨#[1, 172, 2, 2, 0]⟩] W fun e w' => e = .returned (.tuple #[recV r1, .int .i64 0]) ∧ Below W.heap.size W w' := by
  have h1 := iget_any ⟨#[1, 172, 2, 2, 0]⟩ W (by simp [ByteArray.size]) h
  unfold GetR at h1
  rw [rget_r1] at h1
  exact h1
theorem aw_g2 (W : World) (h : Gl W) : Calls Tryd.prog 12 #[.string ⟨#[5, 0]⟩] W fun e w' => e = .returned (.tuple #[recV zeroR, .int .i64 1]) ∧ Below W.heap.size W w' := by
  have h1 := iget_any ⟨#[5, 0]⟩ W (by simp [ByteArray.size]) h
  unfold GetR at h1
  rw [rget_50] at h1
  exact h1
theorem aw_eq (W : World) : (Op.equalIn 10000 27 (recV r1) (recV r1)).run Tryd.prog W = .ok true W := by
  obtain ⟨q, h1, h2⟩ := eq27 fits_r1 fits_r1
  have h3 := h1 W
  rw [h2.2 rfl] at h3
  exact h3

set_option maxRecDepth 100000 in
set_option maxHeartbeats 4000000 in
theorem awake_yes (w : World) (hg : Gl w) : Calls Tryd.prog 11 #[] w fun e w' => e = .returned (.bool true) ∧ Below w.heap.size w w' := by
  have HG := Lib.hid hg
  obtain ⟨cs, hcs⟩ : ∃ cs, cs = recC r1 := ⟨_, rfl⟩
  obtain ⟨zs, hzs⟩ : ∃ zs, zs = zeroC := ⟨_, rfl⟩
  have HCZ : Hid (cs.size = 19) := Lib.hid (by rw [hcs]; rfl)
  have HC1 : Hid (cs.all (·.oneCell') = true) := Lib.hid (by rw [hcs]; exact recC_one _)
  have HZZ : Hid (zs.size = 19) := Lib.hid (by rw [hzs]; rfl)
  have HZ1 : Hid (zs.all (·.oneCell') = true) := Lib.hid (by rw [hzs]; exact recC_one _)
  have HV1 : recV r1 = .agg cs := by rw [hcs]; rfl
  have HVZ : recV zeroR = .agg zs := by rw [hzs]; rfl
  have HE : ∀ W, (Op.equalIn 10000 27 (.agg cs) (.agg cs)).run Tryd.prog W = .ok true W := by rw [← HV1]; exact aw_eq
  have P1 := Lib.hid aw_p1
  have P2 := Lib.hid aw_p2
  have P3 := Lib.hid aw_p3
  have G1 := Lib.hid aw_g1
  have G2 := Lib.hid aw_g2
  rw [HV1] at P1 G1
  rw [HVZ] at G2
  clear HV1 HVZ
  have HL : Hid (cs = recC r1) := Lib.hid hcs
  clear hcs hzs hg
  go_enter Tryd.func11, Tryd.ntmps11
  go_upto_region 2 with (refine wpList_plain rfl fun _ hK => wp_store_row 27 (.tmp 1) (.tmp 12) rfl w.heap.size _ rfl rfl 27 _ (Rw.new w _ 27) (by kernel_rfl) rfl (by simp [Value.oneCell']) (hK _ _ ?_); clear hK)
  refine name_w (fun W => Rw W w.heap.size cs 27 ∧ Below w.heap.size w W) ⟨by rw [HL.out]; exact (Rw.new w zeroC 27).set _, below_setRow ((Below.refl _ _).alloc (Nat.le_refl _) _) (Nat.le_refl _) _⟩ ?_
  rintro W ⟨hR, hB⟩
  have HR0 := Lib.hid hR
  have HB0 := Lib.hid hB
  clear hR hB
  as_aux_lemma =>
    go_wp2_with (refine wpList_load_row rfl 27 (.tmp 1) rfl w.heap.size rfl 27 cs (0, 0) _ HR0.out Tryd.underlying27 rfl (by rw [HCZ.out]; exact i19) ?_)
    refine (P1.out _ (HG.out.under HB0.out HG.out.1)).mono ?_
    rintro e w1 ⟨rfl, hb⟩
    have HB1 := Lib.hid (HB0.out.trans (hb.mono HB0.out.size))
    have HR1 := Lib.hid (HR0.out.under hb HR0.out.lt)
    clear hb HR0 HB0
    as_aux_lemma =>
      go_wp2_with fail
      refine (G1.out _ (HG.out.under HB1.out HG.out.1)).mono ?_
      rintro e w2 ⟨rfl, hb⟩
      have HB2 := Lib.hid (HB1.out.trans (hb.mono HB1.out.size))
      have HR2 := Lib.hid (HR1.out.under hb HR1.out.lt)
      clear hb HR1 HB1
      as_aux_lemma =>
        go_upto_region 4 with (refine wpList_plain rfl fun _ hK => wp_store_row 27 (.tmp 4) (.tmp 21) rfl w2.heap.size cs rfl rfl 27 _ (Rw.new w2 _ 27) (by rw [HCZ.out]; exact i19) (by rw [HCZ.out]; rfl) HC1.out (hK _ _ ?_); clear hK)
        refine name_w (fun W => Rw W w2.heap.size cs 27 ∧ Below w2.heap.size w2 W) ⟨(Rw.new w2 zeroC 27).set cs, below_setRow ((Below.refl _ _).alloc (Nat.le_refl _) _) (Nat.le_refl _) _⟩ ?_
        rintro w3 ⟨hQ, hb3⟩
        have HQ3 := Lib.hid hQ
        have HB3 := Lib.hid (HB2.out.trans (hb3.mono HB2.out.size))
        have HR3 := Lib.hid (HR2.out.under hb3 HR2.out.lt)
        clear hb3 HR2 HB2 hQ
        as_aux_lemma =>
          go_wp2_with fail
          refine (P2.out _ (HG.out.under HB3.out HG.out.1)).mono ?_
          rintro e w4 ⟨rfl, hb⟩
          have HB4 := Lib.hid (HB3.out.trans (hb.mono HB3.out.size))
          have HR4 := Lib.hid (HR3.out.under hb HR3.out.lt)
          have HQ4 := Lib.hid (HQ3.out.under hb HQ3.out.lt)
          clear hb HR3 HB3 HQ3
          as_aux_lemma =>
            go_wp2_with fail
            refine (P3.out _ (HG.out.under HB4.out HG.out.1)).mono ?_
            rintro e w5 ⟨rfl, hb⟩
            have HB5 := Lib.hid (HB4.out.trans (hb.mono HB4.out.size))
            have HR5 := Lib.hid (HR4.out.under hb HR4.out.lt)
            have HQ5 := Lib.hid (HQ4.out.under hb HQ4.out.lt)
            clear hb HR4 HB4 HQ4
            as_aux_lemma =>
              go_wp2_with fail
              refine (G2.out _ (HG.out.under HB5.out HG.out.1)).mono ?_
              rintro e w6 ⟨rfl, hb⟩
              have HB6 := Lib.hid (HB5.out.trans (hb.mono HB5.out.size))
              have HR6 := Lib.hid (HR5.out.under hb HR5.out.lt)
              have HQ6 := Lib.hid (HQ5.out.under hb HQ5.out.lt)
              clear hb HR5 HB5 HQ5
              as_aux_lemma =>
                go_upto_region 7 with (refine wpList_plain rfl fun _ hK => wp_store_row 27 (.tmp 10) (.tmp 35) rfl w6.heap.size zs rfl rfl 27 _ (Rw.new w6 _ 27) (by rw [HZZ.out]; exact i19) (by rw [HZZ.out]; rfl) HZ1.out (hK _ _ ?_); clear hK)
                refine name_w (fun W => Below w6.heap.size w6 W) (below_setRow ((Below.refl _ _).alloc (Nat.le_refl _) _) (Nat.le_refl _) _) ?_
                intro w7 hb7
                have HB7 := Lib.hid (HB6.out.trans (hb7.mono HB6.out.size))
                have HR7 := Lib.hid (HR6.out.under hb7 HR6.out.lt)
                have HQ7 := Lib.hid (HQ6.out.under hb7 HQ6.out.lt)
                clear hb7 HR6 HB6 HQ6
                as_aux_lemma =>
                  go_wp2_with (first | (refine wpList_load_any (by rfl) 27 (.tmp 4) rfl w2.heap.size rfl 27 cs (0, 0) _ HQ7.out Tryd.underlying27 rfl (by rw [HCZ.out]; exact i19) ?_) | (refine wpList_load_any (by rfl) 27 (.tmp 1) rfl w.heap.size rfl 27 cs (0, 0) _ HR7.out Tryd.underlying27 rfl (by rw [HCZ.out]; exact i19) ?_))
                  go_ret
                  exact ⟨rfl, HB7.out⟩
end Go.Proofs.YthombepmlepgfaaDoor
