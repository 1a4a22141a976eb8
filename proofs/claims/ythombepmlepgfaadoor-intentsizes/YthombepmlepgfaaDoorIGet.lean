/-
  What package intent's Get answers.
-/
import Derived.Test.YthombepmlepgfaaDoorRecd
namespace Go.Proofs.YthombepmlepgfaaDoor
open Go.RowKit

theorem results_cell_tmp {P : Program} {fn : Func} {p q : Tmp} {ty : TypeId} (h : fn.results = #[.cell p ty, .tmp q]) (tmps : Array Value) (w : World) (g : Nat) (t : TypeId) (cs : Array Value) (fr : Nat × Nat) (d : TypeDesc)
    (hp : tmps.getD p undef = .pointer (some ⟨g, 0, none⟩)) (hg : w.heap[g]? = some (.cells cs t fr))
    (hu : P.underlying ty = some d) (hd : (match d with | .struct _ | .array _ _ => true | _ => false) = true) (hi : (P.info? ty).map (·.size) = some cs.size) :
    (results fn tmps).run P w = .ok (.tuple #[.agg cs, tmps.getD q undef]) w := by
  have hp' : tmps[p]?.getD undef = .pointer (some ⟨g, 0, none⟩) := by simpa using hp
  simp [results, h, hp', asAddr, run_loadVar_row w g t ty cs fr d hg hu hd hi]
/-- What Get leaves. -/
def GetR (x : Rc × Nat) (w : World) (e : Ending) (w' : World) : Prop := e = .returned (.tuple #[recV x.1, .int .i64 (x.2 : Int)]) ∧ Below w.heap.size w w'
theorem nums_ofNat (ns : List Nat) : nums ns = ints (ns.map Int.ofNat) := rfl
theorem recC_one (r : Rc) : (recC r).all (·.oneCell') = true := by simp [recC, Value.oneCell']
theorem set_one (l : List Int) : ((ints l).toArray).all (·.oneCell') = true := by
  rw [Array.all_eq_true_iff_forall_mem]
  intro u hu
  exact ints_one l u (by simpa using hu)
/-- A slice from its second place on. -/
theorem vals_tail {W : World} {b off c : Nat} {x : Value} {xs : List Value} (h : ∀ k u, (x :: xs)[k]? = some u → W.cell? ⟨b, off + k, none⟩ = some u) (hc : (x :: xs).length ≤ c) (hb : b < W.heap.size) : Vals W (.slice (some ⟨b, off + 1, none⟩) xs.length (c - 1)) xs := by
  refine .inr ⟨⟨b, off + 1, none⟩, c - 1, rfl, by simp at hc; omega, fun _ => hb, fun k u hu => ?_⟩
  have hadd : (⟨b, off + 1, none⟩ : Addr).add k = ⟨b, off + (k + 1), none⟩ := by
    unfold Addr.add
    split <;> simp_all
    all_goals omega
  rw [hadd]
  exact h (k + 1) u (by simpa using hu)

set_option maxRecDepth 100000 in
set_option maxHeartbeats 4000000 in
theorem iget_any (s : ByteArray) (w : World) (hs : s.size ≤ 20000) (hg : Gl w) : Calls Tryd.prog 12 #[.string s] w (GetR (rget s.data.toList) w) := by
  have HG := Lib.hid hg
  have HC : Hid (∀ W, Calls Tryd.prog 25 #[.string s] W (GotL (gets [] s.data.toList) W)) := Lib.hid (fun W => get_any s W hs)
  have HCT := Lib.hid (gets_count s.size s.data.toList [] (by simp))
  have HX : Hid (rget s.data.toList = rgot (gets [] s.data.toList)) := Lib.hid rfl
  have HSM : Hid ((gets [] s.data.toList).1 = 0 → Small (gets [] s.data.toList).2) := Lib.hid (fun h0 => by
    obtain ⟨ns, h1, _, h3⟩ := gets_one s.size s.data.toList [] (by simp) h0
    rw [h1]; exact h3)
  obtain ⟨G, hG⟩ : ∃ G, G = gets [] s.data.toList := ⟨_, rfl⟩
  rw [← hG] at HC HCT HX HSM
  obtain ⟨E, ns⟩ := G
  have HGG := Lib.hid hG
  clear hG hg
  have HL : Hid (ns.length ≤ 20000) := Lib.hid (by have := HCT.out; simp at this; omega)
  have HZ0 : Hid (Rw (w.alloc (.cells zeroC 27)) w.heap.size zeroC 27) := Lib.hid (Rw.new _ _ _)
  have HB0 : Hid (Below w.heap.size w (w.alloc (.cells zeroC 27))) := Lib.hid ((Below.refl _ _).alloc (Nat.le_refl _) _)
  go_enter Tryd.func12, Tryd.ntmps12
  go_wp2_with fail
  refine (HC.out _).mono ?_
  rintro e w1 ⟨u, rfl, ho, hb⟩
  have HB1 := Lib.hid (HB0.out.trans (hb.mono (by simp)))
  have HZ1 := Lib.hid (HZ0.out.under hb (by simp))
  have HU1 : Hid (Vals w1 u (ints (ns.map Int.ofNat))) := Lib.hid (Vals.of_own ho)
  clear hb ho HZ0 HB0 HCT
  obtain ⟨A, c, rfl⟩ : ∃ A c, u = .slice A ns.length c := by
    obtain ⟨A, c, h⟩ := HU1.out.slice
    exact ⟨A, c, by rw [h, ints_len, List.length_map]⟩
  have ZS := Lib.hid (HZ1.out.set zeroC)
  have BS := Lib.hid (below_setRow HB1.out (Nat.le_refl _) zeroC)
  by_cases hE : E = 0
  · subst hE
    match ns with
    | [] =>
      go_wp2_with (refine wpList_plain rfl fun _ hK => wp_store_row 27 (.tmp 2) (.tmp 25) rfl w.heap.size _ rfl rfl 27 _ HZ1.out (by kernel_rfl) rfl (by simp [Value.oneCell']) (hK _ _ ?_); clear hK)
      (try simp only [Exit.inBlock, Exit.then])
      refine bodyPost_ret (results_cell_tmp rfl _ _ w.heap.size 27 zeroC (0, 0) _ rfl ZS.out Tryd.underlying27 rfl (by kernel_rfl)) rfl ?_
      exact ⟨by rw [HX.out]; rfl, BS.out⟩
    | kn :: rest =>
      obtain ⟨b, off, c', hve, hcc, hbb, hxx⟩ := HU1.out.full (by simp [ints_len])
      obtain rfl : A = some ⟨b, off, none⟩ := by injection hve
      have hN : rest.length + 1 ≤ 20000 := by simpa using HL.out
      have hcc' : rest.length + 1 ≤ c' := by simpa [ints_len] using hcc
      obtain rfl : c = c' := by injection hve
      obtain ⟨m, rfl⟩ : ∃ m, c = m + 1 := ⟨c - 1, by omega⟩
      have k0 : w1.cell? ⟨b, off, none⟩ = some (.int .i64 (kn : Int)) := hxx 0 _ rfl
      have HC1 : Hid (∀ k (h : k < rest.length), w1.cell? ⟨b, off + 1 + k, none⟩ = some (.int .i64 (rest[k] : Int))) := Lib.hid (fun k h => by
        have h1 := hxx (k + 1) (.int .i64 (rest[k] : Int)) (by simp [ints, h])
        rw [show off + 1 + k = off + (k + 1) by omega]
        exact h1)
      have HK : Hid (∀ W, Calls Tryd.prog 15 #[.int .i64 (kn : Int)] W (GotF W (kn : Int))) := Lib.hid (fun W => fieldsOf_any _ W (by
        have := HSM.out rfl kn (List.mem_cons_self ..)
        unfold Fits; omega))
      clear hve hcc hxx
      rw [show (kn :: rest).length = rest.length + 1 from rfl]
      by_cases hm : m = 0
      · subst hm
        obtain rfl : rest = [] := List.eq_nil_of_length_eq_zero (by omega)
        simp only [List.length_nil, Nat.zero_add]
        clear hcc'
        go_wp2_with fail
        go_quiet (fail)
        go_wp2_with fail
        refine (HK.out _).mono ?_
        rintro e w2 ⟨v, rfl, hv, hb⟩
        have HB2 := Lib.hid ((HB1.out.trans (below_drewN _ _ _)).trans (hb.mono HB1.out.size))
        have HZ2 : Hid (Rw w2 w.heap.size zeroC 27) := Lib.hid (Rw.under (W := w1.drewN nq) HZ1.out hb HZ1.out.lt)
        have HV2 := Lib.hid hv
        have ZS2 := Lib.hid (HZ2.out.set zeroC)
        have BS2 := Lib.hid (below_setRow HB2.out (Nat.le_refl _) zeroC)
        clear hv hb HC1 HZ1 HU1
        cases hk : kindF (kn : Int) with
        | none =>
          have HX6 : Hid (rget s.data.toList = (zeroR, 6)) := Lib.hid (by rw [HX.out]; unfold rgot; simp only; rw [if_neg (by simp), hk])
          rw [show kindT (kn : Int) = none by rw [kindT_eq, hk]; rfl]
          clear hk
          go_wp2_with (refine wpList_plain rfl fun _ hK => wp_store_row 27 (.tmp 2) (.tmp 38) rfl w.heap.size _ rfl rfl 27 _ HZ2.out (by kernel_rfl) rfl (by simp [Value.oneCell']) (hK _ _ ?_); clear hK)
          (try simp only [Exit.inBlock, Exit.then])
          refine bodyPost_ret (results_cell_tmp rfl _ _ w.heap.size 27 zeroC (0, 0) _ rfl ZS2.out Tryd.underlying27 rfl (by kernel_rfl)) rfl ?_
          exact ⟨by rw [HX6.out]; rfl, BS2.out⟩
        | some fs =>
          have HFS := Lib.hid (kind_lt hk)
          have HKF := Lib.hid hk
          have hfn : fs.length ≤ 12 := HFS.out.1
          have hT : kindT (kn : Int) = some (nums' fs) := by rw [kindT_eq, hk]; rfl
          rw [hT] at HV2 ⊢
          have HV3 : Hid (Vals w2 v (ints (nums' fs))) := Lib.hid HV2.out
          clear hT HV2 hk
          match fs with
          | [] =>
            obtain ⟨A2, c2, rfl⟩ : ∃ A c, v = .slice A 0 c := by
              obtain ⟨A, c, h⟩ := HV3.out.slice
              exact ⟨A, c, h⟩
            have HI : Hid (∀ u W, Vals W u (ints (nums' [])) → Gl W → Calls Tryd.prog 18 #[arrV zeros, u] W fun e w' => e = .returned (.bool true) ∧ Below W.heap.size W w') := Lib.hid (fun u W hu hG => within_any zeros [] u W rfl HFS.out.2.1 HFS.out.1 hu hG)
            have HRO : Hid (∀ W, Calls Tryd.prog 26 #[.int .i64 (kn : Int), arrV zeros] W fun e w' => e = .returned (recV (recOf (kn : Int) zeros)) ∧ Below W.heap.size W w') := Lib.hid (fun W => recordOf_any _ zeros W rfl)
            have HXX : Hid (rget s.data.toList = (recOf (kn : Int) zeros, 0)) := Lib.hid (by
              rw [HX.out]; unfold rgot; simp only; rw [if_neg (by simp), HKF.out]; rfl)
            unfold arrV at HI HRO
            obtain ⟨ds, hds⟩ : ∃ ds, ds = (ints zeros).toArray := ⟨_, rfl⟩
            have HDZ : Hid (ds.size = 18) := Lib.hid (by rw [hds]; rfl)
            have HD : Hid (Rw (w2.alloc (.cells (ints zeros).toArray 49)) w2.heap.size ds 49) := Lib.hid (by rw [hds]; exact Rw.new _ _ _)
            rw [← hds] at HI HRO
            have hbA : Below w2.heap.size w2 (w2.alloc (.cells (ints zeros).toArray 49)) := (Below.refl _ _).alloc (Nat.le_refl _) _
            have HBA := Lib.hid (HB2.out.trans (hbA.mono HB2.out.size))
            have HZA := Lib.hid (HZ2.out.under hbA HZ2.out.lt)
            have HVA := Lib.hid (HV3.out.under hbA)
            clear hds hbA
            go_wp2
            refine wp_loop_rounds 1 ?_
            rw [rounds_succ]
            go_wp2_with (refine wpList_load_row rfl 49 (.tmp 10) rfl w2.heap.size rfl 49 ds (0, 0) _ HD.out Tryd.underlying49 rfl (by rw [HDZ.out]; exact i18) ?_)
            refine (HI.out _ _ HVA.out (HG.out.under HBA.out HG.out.1)).mono ?_
            rintro e w3 ⟨rfl, hb⟩
            have HB3 := Lib.hid (HBA.out.trans (hb.mono HBA.out.size))
            have HZ3 := Lib.hid (HZA.out.under hb HZA.out.lt)
            have HD3 := Lib.hid (HD.out.under hb HD.out.lt)
            clear hb HD HBA HZA HVA
            go_wp2_with (refine wpList_load_row rfl 49 (.tmp 10) rfl w2.heap.size rfl 49 ds (0, 0) _ HD3.out Tryd.underlying49 rfl (by rw [HDZ.out]; exact i18) ?_)
            refine (HRO.out _).mono ?_
            rintro e w4 ⟨rfl, hb⟩
            have HB4 := Lib.hid (HB3.out.trans (hb.mono HB3.out.size))
            have HZ4 := Lib.hid (HZ3.out.under hb HZ3.out.lt)
            unfold recV
            obtain ⟨rc, hrc⟩ : ∃ rc, rc = recC (recOf (kn : Int) zeros) := ⟨_, rfl⟩
            have HRS : Hid (rc.size = 19) := Lib.hid (by rw [hrc]; rfl)
            have HR1 : Hid (rc.all (·.oneCell') = true) := Lib.hid (by rw [hrc]; exact recC_one _)
            rw [← hrc]
            have HRC := Lib.hid hrc
            clear hrc hb
            have ZS4 := Lib.hid (HZ4.out.set rc)
            have BS4 := Lib.hid (below_setRow HB4.out (Nat.le_refl _) rc)
            go_wp2_with (refine wpList_plain rfl fun _ hK => wp_store_row 27 (.tmp 2) (.tmp 66) rfl w.heap.size rc rfl rfl 27 _ HZ4.out (by rw [HRS.out]; exact i19) (by rw [HRS.out]; rfl) HR1.out (hK _ _ ?_); clear hK)
            (try simp only [Exit.inBlock, Exit.then])
            refine bodyPost_ret (results_cell_tmp rfl _ _ w.heap.size 27 rc (0, 0) _ rfl ZS4.out Tryd.underlying27 rfl (by rw [HRS.out]; exact i19)) rfl ?_
            exact ⟨by rw [HXX.out, HRC.out]; rfl, BS4.out⟩
          | f0 :: fs =>
            obtain ⟨A2, c2, rfl⟩ : ∃ A c, v = .slice A (fs.length + 1) c := by
              obtain ⟨A, c, h⟩ := HV3.out.slice
              exact ⟨A, c, by rw [h, ints_len, nums'_len]; rfl⟩
            have hf2 : fs.length + 1 ≤ 12 := hfn
            have HX4 : Hid (rget s.data.toList = (zeroR, 4)) := Lib.hid (by rw [HX.out]; unfold rgot; simp only; rw [if_neg (by simp), HKF.out]; rfl)
            have hl2 : ((0 : Int) != ((fs.length : Int) + 1)) = true := by simp; omega
            clear hfn
            go_wp2_with (refine wpList_plain rfl fun _ hK => wp_store_row 27 (.tmp 2) (.tmp 44) rfl w.heap.size _ rfl rfl 27 _ HZ2.out (by kernel_rfl) rfl (by simp [Value.oneCell']) (hK _ _ ?_); clear hK)
            (try simp only [Exit.inBlock, Exit.then])
            refine bodyPost_ret (results_cell_tmp rfl _ _ w.heap.size 27 zeroC (0, 0) _ rfl ZS2.out Tryd.underlying27 rfl (by kernel_rfl)) rfl ?_
            exact ⟨by rw [HX4.out]; rfl, BS2.out⟩
      · have hm' : 0 < m := by omega
        go_wp2_with fail
        go_quiet (fail)
        go_wp2_with fail
        refine (HK.out _).mono ?_
        rintro e w2 ⟨v, rfl, hv, hb⟩
        have HB2 := Lib.hid ((HB1.out.trans (below_drewN _ _ _)).trans (hb.mono HB1.out.size))
        have HZ2 : Hid (Rw w2 w.heap.size zeroC 27) := Lib.hid (Rw.under (W := w1.drewN nq) HZ1.out hb HZ1.out.lt)
        have HC2 : Hid (∀ k (h : k < rest.length), w2.cell? ⟨b, off + 1 + k, none⟩ = some (.int .i64 (rest[k] : Int))) := Lib.hid (fun k h => (hb.cell (p := ⟨b, off + 1 + k, none⟩) hbb).trans (HC1.out k h))
        have hb2 : b < w2.heap.size := Nat.lt_of_lt_of_le hbb hb.size
        have HV2 := Lib.hid hv
        have ZS2 := Lib.hid (HZ2.out.set zeroC)
        have BS2 := Lib.hid (below_setRow HB2.out (Nat.le_refl _) zeroC)
        clear hv hb HC1 HZ1 HU1 hcc'
        cases hk : kindF (kn : Int) with
        | none =>
          have HX6 : Hid (rget s.data.toList = (zeroR, 6)) := Lib.hid (by rw [HX.out]; unfold rgot; simp only; rw [if_neg (by simp), hk])
          rw [show kindT (kn : Int) = none by rw [kindT_eq, hk]; rfl]
          clear hk
          go_wp2_with (refine wpList_plain rfl fun _ hK => wp_store_row 27 (.tmp 2) (.tmp 38) rfl w.heap.size _ rfl rfl 27 _ HZ2.out (by kernel_rfl) rfl (by simp [Value.oneCell']) (hK _ _ ?_); clear hK)
          (try simp only [Exit.inBlock, Exit.then])
          refine bodyPost_ret (results_cell_tmp rfl _ _ w.heap.size 27 zeroC (0, 0) _ rfl ZS2.out Tryd.underlying27 rfl (by kernel_rfl)) rfl ?_
          exact ⟨by rw [HX6.out]; rfl, BS2.out⟩
        | some fs =>
          have HFS := Lib.hid (kind_lt hk)
          have HKF := Lib.hid hk
          have hfn : fs.length ≤ 12 := HFS.out.1
          have hT : kindT (kn : Int) = some (nums' fs) := by rw [kindT_eq, hk]; rfl
          rw [hT] at HV2 ⊢
          have HV3 : Hid (Vals w2 v (ints (nums' fs))) := Lib.hid HV2.out
          clear hT HV2 hk
          obtain ⟨A2, c2, rfl⟩ : ∃ A c, v = .slice A fs.length c := by
            obtain ⟨A, c, h⟩ := HV3.out.slice
            exact ⟨A, c, by rw [h, ints_len, nums'_len]⟩
          by_cases hlen : rest.length = fs.length
          · have HLN := Lib.hid hlen
            rw [hlen]
            have hl2 : ((fs.length : Int) != (fs.length : Int)) = false := by simp
            clear hlen
            go_wp2
            go_loopg [47] fs.length (fun g i wr => ∃ k : Nat, Hid (g = fs.length - k) ∧ k ≤ fs.length ∧ i = .int .i64 k ∧ Hid (Rw wr w2.heap.size (ints (fillFrom zeros (fs.take k) ((rest.map Int.ofNat).take k))).toArray 49) ∧ Hid (Below w2.heap.size w2 wr))
            case atStart => exact ⟨0, Lib.hid rfl, Nat.zero_le _, rfl, Lib.hid (Rw.new w2 (ints zeros).toArray 49), Lib.hid ((Below.refl _ _).alloc (Nat.le_refl _) _)⟩
            case round =>
              obtain ⟨k, HKK, hk, rfl, HRW, HBL⟩ := hrel
              by_cases hlt : k < fs.length
              · obtain ⟨b3, off3, c3, hve, hcc, hbb3, hxx⟩ := HV3.out.full (by rw [ints_len, nums'_len]; omega)
                obtain rfl : A2 = some ⟨b3, off3, none⟩ := by injection hve
                obtain ⟨f, hfd⟩ : ∃ f, f = fs[k] := ⟨_, rfl⟩
                have hf18 : f < 18 := by rw [hfd]; exact HFS.out.2.1 _ (List.getElem_mem hlt)
                have cj : wr.cell? ⟨b3, off3 + k, none⟩ = some (.int .i64 (f : Int)) := by
                  rw [hfd]
                  exact (HBL.out.cell (p := ⟨b3, off3 + k, none⟩) hbb3).trans (hxx k _ (nums'_at fs k hlt))
                have hkr : k < rest.length := by rw [HLN.out]; exact hlt
                obtain ⟨x, hx⟩ : ∃ x, x = (rest[k] : Int) := ⟨_, rfl⟩
                have cr : wr.cell? ⟨b, off + 1 + k, none⟩ = some (.int .i64 x) := by
                  rw [hx]
                  exact (HBL.out.cell (p := ⟨b, off + 1 + k, none⟩) hb2).trans (HC2.out k hkr)
                obtain ⟨y, cx⟩ : ∃ y, wr.cell? ⟨w2.heap.size, f, none⟩ = some (.int .i64 y) := ⟨_, by rw [HRW.out.cell f, arr_at _ f (by rw [fill_len]; exact hf18)]⟩
                have fx := HRW.out.fr f
                have HFD : Hid (fillFrom zeros (fs.take (k + 1)) ((rest.map Int.ofNat).take (k + 1)) = (fillFrom zeros (fs.take k) ((rest.map Int.ofNat).take k)).set f x) := Lib.hid (by
                  rw [taken_snoc fs k hlt, List.take_succ_eq_append_getElem (by simpa using hkr), fill_snoc _ _ _ _ (by simp [HLN.out]), hfd, hx]
                  simp)
                clear hve hcc hxx hfd hx hkr
                go_wp2
                go_roundg (fs.length - (k + 1))
                case measure => have := HKK.out; omega
                case rel =>
                  refine ⟨k + 1, Lib.hid rfl, by omega, by go_num, Lib.hid ?_, Lib.hid (below_setCell HBL.out (Nat.le_refl _) _)⟩
                  rw [HFD.out]
                  exact HRW.out.put f x
              · obtain rfl : k = fs.length := by omega
                have hfl : fillFrom zeros (fs.take fs.length) ((rest.map Int.ofNat).take fs.length) = fill fs (rest.map Int.ofNat) := by
                  rw [List.take_length, List.take_of_length_le (by simp [HLN.out])]; rfl
                have HRL := HRW.out
                rw [hfl] at HRL
                obtain ⟨l, hl⟩ : ∃ l, l = fill fs (rest.map Int.ofNat) := ⟨_, rfl⟩
                rw [← hl] at HRL
                have hl18 : l.length = 18 := by rw [hl, fill, fill_len]; rfl
                have HI : Hid (∀ u W, Vals W u (ints (nums' fs)) → Gl W → Calls Tryd.prog 18 #[arrV l, u] W fun e w' => e = .returned (.bool (inside l fs)) ∧ Below W.heap.size W w') := Lib.hid (fun u W hu hG => within_any l fs u W hl18 HFS.out.2.1 HFS.out.1 hu hG)
                have HRO : Hid (∀ W, Calls Tryd.prog 26 #[.int .i64 (kn : Int), arrV l] W fun e w' => e = .returned (recV (recOf (kn : Int) l)) ∧ Below W.heap.size W w') := Lib.hid (fun W => recordOf_any _ l W hl18)
                have HXX : Hid (rget s.data.toList = if inside l fs then (recOf (kn : Int) l, 0) else (zeroR, 1)) := Lib.hid (by
                  rw [HX.out]; unfold rgot; simp only; rw [if_neg (by simp), HKF.out]; simp only; rw [if_pos HLN.out, ← hl])
                unfold arrV at HI HRO
                obtain ⟨ds, hds⟩ : ∃ ds, ds = (ints l).toArray := ⟨_, rfl⟩
                have HDZ : Hid (ds.size = 18) := Lib.hid (by rw [hds]; simp [ints_len, hl18])
                rw [← hds] at HRL HI HRO
                have HD := Lib.hid HRL
                have HBA := Lib.hid (HB2.out.trans (HBL.out.mono HB2.out.size))
                have HZA := Lib.hid (HZ2.out.under HBL.out HZ2.out.lt)
                have HVA := Lib.hid (HV3.out.under HBL.out)
                clear hfl hl hl18 hds HRL
                go_wp2_with (refine wpList_load_row rfl 49 (.tmp 10) rfl w2.heap.size rfl 49 ds (0, 0) _ HD.out Tryd.underlying49 rfl (by rw [HDZ.out]; exact i18) ?_)
                refine (HI.out _ _ HVA.out (HG.out.under HBA.out HG.out.1)).mono ?_
                rintro e w3 ⟨rfl, hb⟩
                have HB3 := Lib.hid (HBA.out.trans (hb.mono HBA.out.size))
                have HZ3 := Lib.hid (HZA.out.under hb HZA.out.lt)
                have HD3 := Lib.hid (HD.out.under hb HD.out.lt)
                clear hb HD HBA HZA HVA
                by_cases hin : inside l fs = true
                · rw [hin] at HXX ⊢
                  rw [if_pos rfl] at HXX
                  clear hin
                  go_wp2_with (refine wpList_load_row rfl 49 (.tmp 10) rfl w2.heap.size rfl 49 ds (0, 0) _ HD3.out Tryd.underlying49 rfl (by rw [HDZ.out]; exact i18) ?_)
                  refine (HRO.out _).mono ?_
                  rintro e w4 ⟨rfl, hb⟩
                  have HB4 := Lib.hid (HB3.out.trans (hb.mono HB3.out.size))
                  have HZ4 := Lib.hid (HZ3.out.under hb HZ3.out.lt)
                  unfold recV
                  obtain ⟨rc, hrc⟩ : ∃ rc, rc = recC (recOf (kn : Int) l) := ⟨_, rfl⟩
                  have HRS : Hid (rc.size = 19) := Lib.hid (by rw [hrc]; rfl)
                  have HR1 : Hid (rc.all (·.oneCell') = true) := Lib.hid (by rw [hrc]; exact recC_one _)
                  rw [← hrc]
                  have HRC := Lib.hid hrc
                  clear hrc hb
                  have ZS4 := Lib.hid (HZ4.out.set rc)
                  have BS4 := Lib.hid (below_setRow HB4.out (Nat.le_refl _) rc)
                  go_wp2_with (refine wpList_plain rfl fun _ hK => wp_store_row 27 (.tmp 2) (.tmp 66) rfl w.heap.size rc rfl rfl 27 _ HZ4.out (by rw [HRS.out]; exact i19) (by rw [HRS.out]; rfl) HR1.out (hK _ _ ?_); clear hK)
                  (try simp only [Exit.inBlock, Exit.then])
                  refine bodyPost_ret (results_cell_tmp rfl _ _ w.heap.size 27 rc (0, 0) _ rfl ZS4.out Tryd.underlying27 rfl (by rw [HRS.out]; exact i19)) rfl ?_
                  exact ⟨by rw [HXX.out, HRC.out]; rfl, BS4.out⟩
                · rw [if_neg hin] at HXX
                  rw [show inside l fs = false by simpa using hin]
                  have ZS3 := Lib.hid (HZ3.out.set zeroC)
                  have BS3 := Lib.hid (below_setRow HB3.out (Nat.le_refl _) zeroC)
                  clear hin
                  go_wp2_with (refine wpList_plain rfl fun _ hK => wp_store_row 27 (.tmp 2) (.tmp 63) rfl w.heap.size _ rfl rfl 27 _ HZ3.out (by kernel_rfl) rfl (by simp [Value.oneCell']) (hK _ _ ?_); clear hK)
                  (try simp only [Exit.inBlock, Exit.then])
                  refine bodyPost_ret (results_cell_tmp rfl _ _ w.heap.size 27 zeroC (0, 0) _ rfl ZS3.out Tryd.underlying27 rfl (by kernel_rfl)) rfl ?_
                  exact ⟨by rw [HXX.out]; rfl, BS3.out⟩
          · have HX4 : Hid (rget s.data.toList = (zeroR, 4)) := Lib.hid (by rw [HX.out]; unfold rgot; simp only; rw [if_neg (by simp), HKF.out]; simp only; rw [if_neg hlen])
            have hl2 : ((rest.length : Int) != (fs.length : Int)) = true := by simp; omega
            clear hlen
            go_wp2_with (refine wpList_plain rfl fun _ hK => wp_store_row 27 (.tmp 2) (.tmp 44) rfl w.heap.size _ rfl rfl 27 _ HZ2.out (by kernel_rfl) rfl (by simp [Value.oneCell']) (hK _ _ ?_); clear hK)
            (try simp only [Exit.inBlock, Exit.then])
            refine bodyPost_ret (results_cell_tmp rfl _ _ w.heap.size 27 zeroC (0, 0) _ rfl ZS2.out Tryd.underlying27 rfl (by kernel_rfl)) rfl ?_
            exact ⟨by rw [HX4.out]; rfl, BS2.out⟩
  · have hE' : ((E : Int) != 0) = true := by simpa using hE
    have HXE : Hid (rget s.data.toList = (zeroR, E)) := Lib.hid (by rw [HX.out]; unfold rgot; rw [if_pos (by simpa using hE)])
    clear hE
    go_wp2_with (refine wpList_plain rfl fun _ hK => wp_store_row 27 (.tmp 2) (.tmp 20) rfl w.heap.size _ rfl rfl 27 _ HZ1.out (by kernel_rfl) rfl (by simp [Value.oneCell']) (hK _ _ ?_); clear hK)
    (try simp only [Exit.inBlock, Exit.then])
    refine bodyPost_ret (results_cell_tmp rfl _ _ w.heap.size 27 zeroC (0, 0) _ rfl ZS.out Tryd.underlying27 rfl (by kernel_rfl)) rfl ?_
    exact ⟨by rw [HXE.out]; rfl, BS.out⟩
end Go.Proofs.YthombepmlepgfaaDoor
