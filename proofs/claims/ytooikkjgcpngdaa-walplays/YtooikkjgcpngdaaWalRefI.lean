/-
  The document's own log: Open, where there is no head and one is laid.
-/
import Derived.Test.YtooikkjgcpngdaaWalRefF
namespace Go.Proofs.Ytooikkjgcpngdaa
open Go.RowKit
open Fr (Rec secB valL lenV)

variable {P Q R V : Nat → Prop} {w w' : World} {B m g v : Nat} {fu : Fu} {s : Dk} {l : Lg} {lv : Value}


set_option maxRecDepth 100000 in
set_option maxHeartbeats 4000000 in
theorem mopen_ok (h : DskR w B R m g s fu) (hbig : s.Big) (hop : s.opn.length = 0) (hc : fu.count < 800000) (hBw : B ≤ w.heap.size) (h0 : headG ((s).at 0) = 0) (h1 : headG ((s).at (s).half) = 0) (hlay : layOk (fu) = true) :
    Calls Try.prog 14 #[.pointer (some ⟨m, 0, none⟩)] w (OpenedR w B R m g (layS (s) (fu) 0 (secB 1 0 headT (s).size)) (layF (fu)) ⟨0, 1, recs (layS (s) (fu) 0 (secB 1 0 headT (s).size)).now 0 1 ((s).half - 1) 1, false⟩) := by
  obtain ⟨oa, oc, d3⟩ := h.c3
  rw [hop] at d3
  have HBW := Lib.hid hBw
  have HDA := Lib.hid h
  have HKA : Hid (Kept R w w) := Lib.hid (Kept.refl _ _)
  have hn1 := h.good.n1
  have hb4 := hbig.len
  have HBIG : Hid ((s).Big) := Lib.hid hbig
  obtain ⟨i9, hi9, hz90, hz91, hz92⟩ := info_parts Tinfo9
  obtain ⟨a, ha⟩ : ∃ a, a = headG ((s).at 0) := ⟨_, rfl⟩
  obtain ⟨b, hb⟩ : ∃ b, b = headG ((s).at (s).half) := ⟨_, rfl⟩
  have hal := headG_lt ((s).at 0)
  have hbl := headG_lt ((s).at (s).half)
  have HH0 : Hid (∀ W, DskR W B R m g (s) (fu) → Calls Try.prog 39 #[.pointer (some ⟨m, 0, none⟩), .int .i64 0] W fun e w' => e = .returned (.int .i64 (a : Int)) ∧ Below W.heap.size W w') := Lib.hid (fun W hW => by rw [ha]; exact head_at 0 0 hW (by omega) (by omega))
  have HH1 : Hid (∀ W, DskR W B R m g (s) (fu) → Calls Try.prog 39 #[.pointer (some ⟨m, 0, none⟩), .int .i64 1] W fun e w' => e = .returned (.int .i64 (b : Int)) ∧ Below W.heap.size W w') := Lib.hid (fun W hW => by rw [hb]; exact head_at 1 _ hW (by omega) (by omega))
  rw [← ha] at h0
  rw [← hb] at h1
  subst h0 h1
  obtain ⟨S5, hS5⟩ : ∃ S5, S5 = layS (s) (fu) 0 (secB 1 0 headT (s).size) := ⟨_, rfl⟩
  obtain ⟨F5, hF5⟩ : ∃ F5, F5 = layF (fu) := ⟨_, rfl⟩
  have HLY := Lib.hid hlay
  have HS5E := Lib.hid hS5
  have HF5E := Lib.hid hF5
  have HL : Hid (∀ W Q V v l lv, DskR W B Q m g (s) (fu) → InvV W B V v m l lv → (∀ k, Q k → ¬ V k) → B ≤ W.heap.size → Calls Try.prog 40 #[.pointer (some ⟨v, 0, none⟩), .int .i64 0, .int .i64 1, .int .i64 0, .string headT] W fun e w' => e = .returned (.bool true) ∧ ∃ R', Hid (DskR w' B R' m g S5 F5 ∧ InvV w' B V v m l lv ∧ (∀ k, R' k → Q k ∨ W.heap.size ≤ k) ∧ Kept (fun k => Q k ∨ V k) W w')) := Lib.hid (fun W Q V v l lv hW hV hdis hB => by
    have hh := lay_here (wd := W) ⟨rfl, rfl, rfl, rfl⟩ 0 1 0 0 headT hW hV hdis HBIG.out (by omega) (by omega) (by rw [headT_size]; have := HBIG.out.size; omega) (by omega) (by simp) (by have := hW.good.n0; omega) (by omega) (by rw [hop]; omega) hB
    rw [HLY.out, ← HS5E.out, ← HF5E.out] at hh
    exact hh)
  obtain ⟨A, hA⟩ : ∃ A : Nat, A = 0 := ⟨_, rfl⟩
  obtain ⟨G, hG⟩ : ∃ G : Nat, G = 1 := ⟨_, rfl⟩
  have HGE := Lib.hid hG
  have HAE := Lib.hid hA
  obtain ⟨X, hX⟩ : ∃ X, X = recs (layS (s) (fu) 0 (secB 1 0 headT (s).size)).now 0 1 ((s).half - 1) 1 := ⟨_, rfl⟩
  obtain ⟨n, hn⟩ : ∃ n, n = S5.now.length := ⟨_, rfl⟩
  obtain ⟨hf, hhf⟩ : ∃ hf, hf = S5.half := ⟨_, rfl⟩
  obtain ⟨ah, hah⟩ : ∃ ah, ah = A * hf := ⟨_, rfl⟩
  have HX : Hid (X = [] ++ recs S5.now (A * S5.half) G (hf - 1) 1) := Lib.hid (by rw [hX, hG, hhf, hS5, layS_half, hA, List.nil_append, Nat.zero_mul])
  have HNE := Lib.hid hn
  have HHE := Lib.hid hhf
  have HAHE := Lib.hid hah.symm
  have hnb : 4 ≤ n ∧ n ≤ 1024 := by rw [hn, hS5, (layS_len ..).1]; exact ⟨HBIG.out.len, hn1⟩
  have hfb : 2 ≤ hf ∧ 2 * hf ≤ n := by rw [hhf, hn]; unfold Dk.half; rw [← hn]; omega
  have eh : (n : Int) / 2 = (hf : Int) := by rw [hhf]; unfold Dk.half; rw [← hn]; omega
  obtain ⟨hn4, hn5⟩ := hnb
  obtain ⟨hf2, hfn⟩ := hfb
  have HAH : Hid (A * hf ≤ hf ∧ A * hf + hf ≤ n ∧ hf ≤ 512 ∧ n = S5.now.length) := Lib.hid (by rw [hA]; omega)
  rw [← hX, ← hS5, ← hF5]
  rw [show (⟨0, 1, X, false⟩ : Lg) = ⟨A, G, X, false⟩ from by rw [hA, hG]]
  clear h hbig hBw ha hb hS5 hF5 hA hG hX hn hhf hah hn1 hb4 hal hbl hlay hop hc
  go_enter Try.func14, Try.ntmps14
  go_wp2_with fail
  have HDB := Lib.hid (HDA.out.alloc (.cells #[.pointer (some ⟨m, 0, none⟩), .int .i64 0, .int .i64 0, .slice none 0 0, .bool false] 52))
  refine (HH0.out _ HDB.out).mono ?_
  rintro e w2 ⟨rfl, hb2⟩
  have HBA : Hid (B ≤ w.heap.size) := Lib.hid (Nat.le_trans HBW.out HKA.out.size)
  have HD2 := Lib.hid (HDB.out.under hb2)
  have HV2 := Lib.hid ((InvV.fresh w m HBA.out).under hb2)
  have HK2 : Hid (Kept R w w2) := Lib.hid ((HKA.out.alloc _).same (Kept.ofBelow hb2))
  obtain ⟨vv, hvv⟩ : ∃ vv, vv = w.heap.size := ⟨_, rfl⟩
  have HSA : Hid (w.heap.size ≤ vv) := Lib.hid (by rw [hvv]; exact HKA.out.size)
  have HNV : Hid (¬ R vv) := Lib.hid (fun hr => by have := (HDA.out.lt _ hr).2; rw [hvv] at this; omega)
  rw [← hvv] at HV2 ⊢
  clear hb2 hvv d3
  go_wp2_with fail
  refine (HH1.out _ HD2.out).mono ?_
  rintro e w3 ⟨rfl, hb3⟩
  have HD3 := Lib.hid (HD2.out.under hb3)
  have HV3 := Lib.hid (HV2.out.under hb3)
  have HK3 : Hid (Kept R w w3) := Lib.hid (HK2.out.same (Kept.ofBelow hb3))
  clear hb3
  have c1 := HV3.out.c1
  have c2 := HV3.out.c2
  have f1 := HV3.out.fr 1
  have f2 := HV3.out.fr 2
  have HV4 := Lib.hid (((HV3.out.put2 0 0 (by rfl)).put2 1 1 (by rfl)))
  have HD4 := Lib.hid (((HD3.out.beside HNV.out 2 (.int .i64 0)).beside HNV.out 2 (.int .i64 1)))
  have HK4 := Lib.hid ((HK3.out.new HSA.out 2 (.int .i64 0)).new HSA.out 2 (.int .i64 1))
  go_wp2_with fail
  obtain ⟨W4, hW4⟩ : ∃ W, W = (w3.setCell ⟨vv, 2, none⟩ (.int .i64 0)).setCell ⟨vv, 2, none⟩ (.int .i64 1) := ⟨_, rfl⟩
  rw [← hW4] at HV4 HD4 HK4 ⊢
  clear hW4 c2 c1 f1 f2
  refine (HL.out W4 R (fun k => k = vv) vv _ _ HD4.out HV4.out (fun k hr hk => HNV.out (by rw [← show k = vv from hk]; exact hr)) (Nat.le_trans HBW.out HK4.out.size)).mono ?_
  rintro e w5 ⟨rfl, R5, H5⟩
  have HR5 : Hid (∀ k, R5 k → R k ∨ w.heap.size ≤ k) := Lib.hid (fun k hk => (H5.out.2.2.1 k hk).imp id (Nat.le_trans HK4.out.size))
  have HK5 : Hid (Kept R w w5) := Lib.hid (HK4.out.trans H5.out.2.2.2 (fun k hk h => h.elim id (fun h => by have := HSA.out; exact absurd hk (by rw [show k = vv from h]; omega))))
  have HD5 := Lib.hid H5.out.1
  have HV5 := Lib.hid (inv_both H5.out.2.1 HAE.out HGE.out)
  have HDI5 : Hid (∀ k, R5 k → ¬ (fun k => k = vv) k) := Lib.hid (fun k hr hk => (H5.out.2.2.1 k hr).elim (fun h => HNV.out (by rw [← show k = vv from hk]; exact h)) (fun h => by have := (HV4.out.lt vv rfl).2; rw [show k = vv from hk] at h; omega))
  have HVN5 : Hid (∀ k, (fun k => k = vv) k → w.heap.size ≤ k) := Lib.hid (fun k hk => by rw [show k = vv from hk]; exact HSA.out)
  go_upto_region 14 with (fail)
  obtain ⟨na, nc, n2⟩ := HD5.out.c2
  rw [← HNE.out] at n2
  go_wp2
  clear n2
  go_loopg [8] (hf - 1) (fun gg i wr => ∃ (j : Nat) (V : Nat → Prop) (acc : List ByteArray) (lv : Value), Hid (gg = hf - j) ∧ 1 ≤ j ∧ j ≤ hf ∧ i = .int .i64 (j : Int) ∧ Hid (acc.length + 1 = j) ∧ Hid (X = acc ++ recs S5.now (A * S5.half) G (hf - j) j) ∧ Hid (DskR wr B R5 m g S5 F5) ∧ Hid (InvV wr B V vv m ⟨A, G, acc, false⟩ lv) ∧ Hid (∀ k, R5 k → ¬ V k) ∧ Hid (∀ k, V k → w.heap.size ≤ k) ∧ Hid (Kept R w wr))
  case atStart => exact ⟨1, fun k => k = vv, [], _, Lib.hid rfl, by omega, by omega, rfl, Lib.hid rfl, HX, HD5, HV5, HDI5, HVN5, HK5⟩
  case round =>
    obtain ⟨j, V, acc, lv, HGG, hj1, hj, rfl, HAC, HXX, HD, HV, HDI, HVN, HK⟩ := hrel
    have fin : ∀ wx, Alike wx wr ∨ Below wr.heap.size wr wx → X = acc → OpenedR w B R m g S5 F5 ⟨A, G, X, false⟩ (.returned (.tuple #[.pointer (some ⟨vv, 0, none⟩), .int .i64 0])) wx := fun wx hx hX => by
      rcases hx with hx | hx
      · exact ⟨R5, V, vv, lv, rfl, HD.out.alike hx, by rw [hX]; exact HV.out.alike hx, HDI.out, HR5.out, HVN.out, HK.out.same hx.kept⟩
      · exact ⟨R5, V, vv, lv, rfl, HD.out.under hx, by rw [hX]; exact HV.out.under hx, HDI.out, HR5.out, HVN.out, HK.out.same (Kept.ofBelow hx)⟩
    have FIN := Lib.hid fin
    clear fin
    by_cases hlt : j < hf
    · obtain ⟨i, hi⟩ : ∃ i, i = A * S5.half + j := ⟨_, rfl⟩
      have HIL : Hid (i < S5.now.length) := Lib.hid (by rw [hi, ← HHE.out]; have := HAH.out; omega)
      obtain ⟨kk, cap, c2, ck, hcap⟩ := HD.out.sector i HIL.out
      have hbs := HD.out.good.atSize HIL.out
      have c1 := HV.out.c1
      have c3g := HV.out.c2
      simp only at c1 c3g
      rw [← HNE.out] at c2 hcap
      obtain ⟨b, hb⟩ : ∃ b, b = S5.at i := ⟨_, rfl⟩
      rw [← hb] at ck hbs
      have lm := lt_of_cell c2
      have lk := lt_of_cell ck
      have lv1 := lt_of_cell c1
      have em : IntKind.i64.wrap ((A : Int) * (hf : Int)) = ((A * hf : Nat) : Int) := by
        rw [show (A : Int) * (hf : Int) = ((A * hf : Nat) : Int) from (Int.natCast_mul A hf).symm]
        exact IntWalk.i64_in _ (by have := HAH.out; omega)
      have ei : ((A * hf : Nat) : Int) + (j : Int) = (i : Int) := by rw [hi, ← HHE.out]; omega
      have ew : IntKind.i64.wrap (i : Int) = (i : Int) := IntWalk.i64_in _ (by have := HIL.out; rw [← HNE.out] at this; omega)
      have i0 : (0 : Int) ≤ (i : Int) := by omega
      have i1 : (i : Int) < (n : Int) := by have := HIL.out; rw [← HNE.out] at this; omega
      have HLM := Lib.hid lm
      have HLK := Lib.hid lk
      have HLV := Lib.hid lv1
      have HSZB : Hid (b.size ≤ 1024) := Lib.hid (by rw [hbs]; exact HD.out.good.sz)
      have HB0 : Hid (S5.now.getD (A * S5.half + j) nil = b) := Lib.hid (by rw [hb, hi]; rfl)
      have eAH : ((A * hf : Nat) : Int) = (ah : Int) := by rw [HAHE.out]
      rw [eAH] at em ei
      clear lm lk lv1 hbs hb hi eAH
      by_cases hyes : ∃ p, look b = some (G, j, p)
      · obtain ⟨p, hp⟩ := hyes
        have HLP := Lib.hid hp
        have HG := Lib.hid (fun W => mget_some hp W)
        clear hp
        go_wp2_with fail
        go_region_held3 (fun wx => wx.cell? ⟨m, 2, none⟩ = some (.slice (some ⟨kk, 0, none⟩) n cap) ∧ wx.cell? ⟨kk, i, none⟩ = some (.string b) ∧ wx.cell? ⟨vv, 1, none⟩ = some (.int .i64 (A : Int))) (first | exact ⟨c2, ck, c1⟩ | exact ⟨q2, qk, q1⟩) (first | (go_at_call 41; refine (HG.out _).mono ?_; rintro e w1 ⟨rfl, hb1⟩; have q2 := (hb1.cell (p := ⟨m, 2, none⟩) HLM.out).trans c2; have qk := (hb1.cell (p := ⟨kk, i, none⟩) HLK.out).trans ck; have q1 := (hb1.cell (p := ⟨vv, 1, none⟩) HLV.out).trans c1))
        have HB1 := Lib.hid (below_undrew hb1)
        clear hb1 q1 q2 qk c1 c2 ck
        have HD1 := Lib.hid (HD.out.under HB1.out)
        have HV1 := Lib.hid (HV.out.under HB1.out)
        have c2g := HV1.out.c2
        simp only at c2g
        clear c3g
        obtain ⟨la, lc, c3, hlv⟩ := HV1.out.shape
        simp only at c3 hlv
        obtain ⟨L, hL⟩ : ∃ L, L = acc.length := ⟨_, rfl⟩
        rw [← hL] at c3 hlv
        have HLE := Lib.hid hL
        have HLVE := Lib.hid hlv
        have hL5 : L ≤ 512 := by have := HAC.out; rw [← hL] at this; omega
        have HOW : Hid (w1.ownsRow B 9 1 (.slice la L lc) L (strs acc)) := Lib.hid (by have h := HV1.out.ol; rw [HLVE.out] at h; simp only at h; rw [← hL] at h; exact h)
        clear hL hlv
        have HBS1 : Hid (B ≤ w1.heap.size) := Lib.hid (Nat.le_trans HBW.out (HK.out.same (Kept.ofBelow (P := R) HB1.out)).size)
        go_wp2_with (at_builtin; go_must (refine wpList_append_lies _ rfl (.tmp 107) (.tmp 109) 36 rfl B 9 i9 (.string ⟨#[]⟩) 1 16 Try.underlying36 hi9 hz90 hz91 hz92 rfl (by decide) (.slice la L lc) L (strs acc) rfl (HOW.out.alloc _) ⟨w1.heap.size, 0, none⟩ 1 1 [.string p] rfl rfl (cell_one_new _ _ _) (by simp [Value.oneCell']) (by decide) (by unfold maxLen; omega) (by omega) (by have := HBS1.out; simp; omega) _ rfl ?_); intro g3 cap3 w3 hown3 hgr3 hor3 hlt3; have HI3 := Lib.hid (invV_grown HV1.out HOW.out HLVE.out hown3 hgr3 hor3 hlt3 HLE.out HBS1.out); have HD3 := Lib.hid ((HD1.out.alloc _).grown hgr3 (fun k hk hr => HDI.out k hr (HV1.out.pl k (by rw [HLVE.out]; exact hk)))); have HG3 : Hid (w1.heap.size ≤ g3 ∨ V g3) := Lib.hid (hor3.elim (fun h => .inr (HV1.out.pl _ (by rw [HLVE.out]; exact h))) (fun h => .inl (by rw [h]; simp))); have HK3 := Lib.hid (((HK.out.same (Kept.ofBelow HB1.out)).alloc (.cells #[.string p] 9)).grown hgr3 (fun k hk hlt => absurd (HVN.out k (HV1.out.pl k (by rw [HLVE.out]; exact hk))) (by omega))); clear hown3 hgr3 hor3 hlt3; have c33 := HI3.out.1; have f33 := HI3.out.2.1)
        have HKN : Hid (w.heap.size ≤ w1.heap.size) := Lib.hid (HK.out.same (Kept.ofBelow (P := R) HB1.out)).size
        go_roundg (hf - (j + 1))
        case measure => have := HGG.out; omega
        case rel =>
          refine ⟨j + 1, fun k => V k ∨ k = g3, acc ++ [p], _, Lib.hid rfl, by omega, by omega, by go_num, Lib.hid (by have := HAC.out; simp; omega), Lib.hid ?_, Lib.hid (HD3.out.beside (fun hr => HDI.out vv hr HV1.out.pv) 3 _), Lib.hid HI3.out.2.2, Lib.hid ?_, Lib.hid ?_, Lib.hid (HK3.out.new (HVN.out vv HV1.out.pv) 3 _)⟩
          · rw [HXX.out, show hf - j = (hf - (j + 1)) + 1 by omega, recs_yes (p := p) (by rw [HB0.out]; exact HLP.out), List.append_assoc]
            rfl
          · rintro k hr (hv | rfl)
            · exact HDI.out k hr hv
            · rcases HG3.out with h1 | h1
              · have := (HD1.out.lt _ hr).2; omega
              · exact HDI.out _ hr h1
          · rintro k (hv | rfl)
            · exact HVN.out k hv
            · rcases HG3.out with h1 | h1
              · exact Nat.le_trans HKN.out h1
              · exact HVN.out _ h1
      · have HE : Hid (X = acc) := Lib.hid (by
          rw [HXX.out, recs_no _ (fun p hp => hyes ⟨p, by rw [← HB0.out]; exact hp⟩), List.append_nil])
        cases hlk : look b with
        | none =>
          have HG := Lib.hid (fun W => mget_none hlk W HSZB.out)
          clear hlk hyes
          go_wp2_with fail
          go_region_held3 (fun wx => wx.cell? ⟨m, 2, none⟩ = some (.slice (some ⟨kk, 0, none⟩) n cap) ∧ wx.cell? ⟨kk, i, none⟩ = some (.string b) ∧ wx.cell? ⟨vv, 1, none⟩ = some (.int .i64 (A : Int))) (first | exact ⟨c2, ck, c1⟩ | exact ⟨q2, qk, q1⟩) (first | (go_at_call 41; refine (HG.out _).mono ?_; rintro e w1 ⟨rfl, hb1⟩; have q2 := (hb1.cell (p := ⟨m, 2, none⟩) HLM.out).trans c2; have qk := (hb1.cell (p := ⟨kk, i, none⟩) HLK.out).trans ck; have q1 := (hb1.cell (p := ⟨vv, 1, none⟩) HLV.out).trans c1))
          have HB1 := Lib.hid (below_undrew hb1)
          clear hb1 q1 q2 qk c1 c2 ck c3g
          go_wp2
          go_ret2
          exact FIN.out _ (.inr HB1.out) HE.out
        | some x =>
          obtain ⟨g', n', p⟩ := x
          have HG := Lib.hid (fun W => mget_some hlk W)
          have hne : ¬ (g' = G ∧ n' = j) := fun h => hyes ⟨p, by rw [hlk, h.1, h.2]⟩
          clear hlk hyes
          obtain ⟨gi, hgi⟩ : ∃ gi : Int, gi = (g' : Int) := ⟨_, rfl⟩
          obtain ⟨ni, hni⟩ : ∃ ni : Int, ni = (n' : Int) := ⟨_, rfl⟩
          obtain ⟨GI, hGI⟩ : ∃ GI : Int, GI = (G : Int) := ⟨_, rfl⟩
          rw [← hgi, ← hni] at HG
          have key : ((gi == GI) = false) ∨ ((gi == GI) = true ∧ (ni == (j : Int)) = false) := by
            by_cases h1 : g' = G
            · exact .inr ⟨by simp; omega, by simp; omega⟩
            · exact .inl (by simp; omega)
          have HGI := Lib.hid hGI
          clear hne hgi hni hGI
          rcases key with k1 | ⟨k1, k2⟩
          all_goals
            go_wp2_with fail
            go_region_held3 (fun wx => wx.cell? ⟨m, 2, none⟩ = some (.slice (some ⟨kk, 0, none⟩) n cap) ∧ wx.cell? ⟨kk, i, none⟩ = some (.string b) ∧ wx.cell? ⟨vv, 1, none⟩ = some (.int .i64 (A : Int))) (first | exact ⟨c2, ck, c1⟩ | exact ⟨q2, qk, q1⟩) (first | (go_at_call 41; refine (HG.out _).mono ?_; rintro e w1 ⟨rfl, hb1⟩; have q2 := (hb1.cell (p := ⟨m, 2, none⟩) HLM.out).trans c2; have qk := (hb1.cell (p := ⟨kk, i, none⟩) HLK.out).trans ck; have q1 := (hb1.cell (p := ⟨vv, 1, none⟩) HLV.out).trans c1))
            have HB1 := Lib.hid (below_undrew hb1)
            clear hb1 q1 q2 qk c1 c2 ck c3g
            have c2g := (HV.out.under HB1.out).c2
            simp only at c2g
            rw [← HGI.out] at c2g
            go_wp2
            all_goals
              go_ret2
              exact FIN.out _ (.inr HB1.out) HE.out
    · obtain rfl : j = hf := by omega
      have HE : Hid (X = acc) := Lib.hid (by rw [HXX.out, Nat.sub_self, recs_end, List.append_nil])
      go_wp2
      go_ret2
      exact FIN.out _ (.inl ⟨rfl, rfl, rfl, rfl⟩) HE.out

set_option maxRecDepth 100000 in
set_option maxHeartbeats 4000000 in
theorem mopen_okF (h : DskR w B R m g s fu) (hbig : s.Big) (hop : 0 < s.opn.length) (_hop2 : s.opn.length < 800000) (hok : fu.ok = true) (hc : fu.count < 800000) (hBw : B ≤ w.heap.size) (h0 : headG ((s.flush).at 0) = 0) (h1 : headG ((s.flush).at (s.flush).half) = 0) (hlay : layOk (fu.spent) = true) :
    Calls Try.prog 14 #[.pointer (some ⟨m, 0, none⟩)] w (OpenedR w B R m g (layS (s.flush) (fu.spent) 0 (secB 1 0 headT (s.flush).size)) (layF (fu.spent)) ⟨0, 1, recs (layS (s.flush) (fu.spent) 0 (secB 1 0 headT (s.flush).size)).now 0 1 ((s.flush).half - 1) 1, false⟩) := by
  obtain ⟨oa, oc, d3⟩ := h.c3
  obtain ⟨no, hno⟩ : ∃ no, no = s.opn.length := ⟨_, rfl⟩
  rw [← hno] at d3 hop _hop2
  have HF := Lib.hid (mflush_D h (by omega))
  rw [show fcode fu = 0 from by unfold fcode; rw [hok]; rfl, show fstate s fu = s.flush from by unfold fstate; rw [hok]; rfl] at HF
  have HBW := Lib.hid hBw
  clear hno
  have hn1 := h.good.n1
  have hb4 := hbig.len
  have HBIG : Hid ((s.flush).Big) := Lib.hid (flush_big hbig)
  obtain ⟨i9, hi9, hz90, hz91, hz92⟩ := info_parts Tinfo9
  obtain ⟨a, ha⟩ : ∃ a, a = headG ((s.flush).at 0) := ⟨_, rfl⟩
  obtain ⟨b, hb⟩ : ∃ b, b = headG ((s.flush).at (s.flush).half) := ⟨_, rfl⟩
  have hal := headG_lt ((s.flush).at 0)
  have hbl := headG_lt ((s.flush).at (s.flush).half)
  have HH0 : Hid (∀ W, DskR W B R m g (s.flush) (fu.spent) → Calls Try.prog 39 #[.pointer (some ⟨m, 0, none⟩), .int .i64 0] W fun e w' => e = .returned (.int .i64 (a : Int)) ∧ Below W.heap.size W w') := Lib.hid (fun W hW => by rw [ha]; exact head_at 0 0 hW (by omega) (by omega))
  have HH1 : Hid (∀ W, DskR W B R m g (s.flush) (fu.spent) → Calls Try.prog 39 #[.pointer (some ⟨m, 0, none⟩), .int .i64 1] W fun e w' => e = .returned (.int .i64 (b : Int)) ∧ Below W.heap.size W w') := Lib.hid (fun W hW => by rw [hb]; exact head_at 1 _ hW (by omega) (by omega))
  rw [← ha] at h0
  rw [← hb] at h1
  subst h0 h1
  obtain ⟨S5, hS5⟩ : ∃ S5, S5 = layS (s.flush) (fu.spent) 0 (secB 1 0 headT (s.flush).size) := ⟨_, rfl⟩
  obtain ⟨F5, hF5⟩ : ∃ F5, F5 = layF (fu.spent) := ⟨_, rfl⟩
  have HLY := Lib.hid hlay
  have HS5E := Lib.hid hS5
  have HF5E := Lib.hid hF5
  have HL : Hid (∀ W Q V v l lv, DskR W B Q m g (s.flush) (fu.spent) → InvV W B V v m l lv → (∀ k, Q k → ¬ V k) → B ≤ W.heap.size → Calls Try.prog 40 #[.pointer (some ⟨v, 0, none⟩), .int .i64 0, .int .i64 1, .int .i64 0, .string headT] W fun e w' => e = .returned (.bool true) ∧ ∃ R', Hid (DskR w' B R' m g S5 F5 ∧ InvV w' B V v m l lv ∧ (∀ k, R' k → Q k ∨ W.heap.size ≤ k) ∧ Kept (fun k => Q k ∨ V k) W w')) := Lib.hid (fun W Q V v l lv hW hV hdis hB => by
    have hh := lay_here (wd := W) ⟨rfl, rfl, rfl, rfl⟩ 0 1 0 0 headT hW hV hdis HBIG.out (by omega) (by omega) (by rw [headT_size]; have := HBIG.out.size; omega) (by omega) (by simp) (by have := hW.good.n0; omega) (by have := fu.spent_count; omega) (by show (0 : Nat) < 900000; omega) hB
    rw [HLY.out, ← HS5E.out, ← HF5E.out] at hh
    exact hh)
  obtain ⟨A, hA⟩ : ∃ A : Nat, A = 0 := ⟨_, rfl⟩
  obtain ⟨G, hG⟩ : ∃ G : Nat, G = 1 := ⟨_, rfl⟩
  have HGE := Lib.hid hG
  have HAE := Lib.hid hA
  obtain ⟨X, hX⟩ : ∃ X, X = recs (layS (s.flush) (fu.spent) 0 (secB 1 0 headT (s.flush).size)).now 0 1 ((s.flush).half - 1) 1 := ⟨_, rfl⟩
  obtain ⟨n, hn⟩ : ∃ n, n = S5.now.length := ⟨_, rfl⟩
  obtain ⟨hf, hhf⟩ : ∃ hf, hf = S5.half := ⟨_, rfl⟩
  obtain ⟨ah, hah⟩ : ∃ ah, ah = A * hf := ⟨_, rfl⟩
  have HX : Hid (X = [] ++ recs S5.now (A * S5.half) G (hf - 1) 1) := Lib.hid (by rw [hX, hG, hhf, hS5, layS_half, hA, List.nil_append, Nat.zero_mul])
  have HNE := Lib.hid hn
  have HHE := Lib.hid hhf
  have HAHE := Lib.hid hah.symm
  have hnb : 4 ≤ n ∧ n ≤ 1024 := by rw [hn, hS5, (layS_len ..).1]; exact ⟨HBIG.out.len, hn1⟩
  have hfb : 2 ≤ hf ∧ 2 * hf ≤ n := by rw [hhf, hn]; unfold Dk.half; rw [← hn]; omega
  have eh : (n : Int) / 2 = (hf : Int) := by rw [hhf]; unfold Dk.half; rw [← hn]; omega
  obtain ⟨hn4, hn5⟩ := hnb
  obtain ⟨hf2, hfn⟩ := hfb
  have HAH : Hid (A * hf ≤ hf ∧ A * hf + hf ≤ n ∧ hf ≤ 512 ∧ n = S5.now.length) := Lib.hid (by rw [hA]; omega)
  rw [← hX, ← hS5, ← hF5]
  rw [show (⟨0, 1, X, false⟩ : Lg) = ⟨A, G, X, false⟩ from by rw [hA, hG]]
  clear h hbig hBw ha hb hS5 hF5 hA hG hX hn hhf hah hn1 hb4 hal hbl hlay _hop2 hok hc
  go_enter Try.func14, Try.ntmps14
  go_wp2_with fail
  refine HF.out.mono ?_
  rintro e wA ⟨rfl, hd, hk⟩
  have HDA := Lib.hid hd
  have HKA := Lib.hid hk
  clear hd hk d3
  go_wp2_with fail
  have HDB := Lib.hid (HDA.out.alloc (.cells #[.pointer (some ⟨m, 0, none⟩), .int .i64 0, .int .i64 0, .slice none 0 0, .bool false] 52))
  refine (HH0.out _ HDB.out).mono ?_
  rintro e w2 ⟨rfl, hb2⟩
  have HBA : Hid (B ≤ wA.heap.size) := Lib.hid (Nat.le_trans HBW.out HKA.out.size)
  have HD2 := Lib.hid (HDB.out.under hb2)
  have HV2 := Lib.hid ((InvV.fresh wA m HBA.out).under hb2)
  have HK2 : Hid (Kept R w w2) := Lib.hid ((HKA.out.alloc _).same (Kept.ofBelow hb2))
  obtain ⟨vv, hvv⟩ : ∃ vv, vv = wA.heap.size := ⟨_, rfl⟩
  have HSA : Hid (w.heap.size ≤ vv) := Lib.hid (by rw [hvv]; exact HKA.out.size)
  have HNV : Hid (¬ R vv) := Lib.hid (fun hr => by have := (HDA.out.lt _ hr).2; rw [hvv] at this; omega)
  rw [← hvv] at HV2 ⊢
  clear hb2 hvv 
  go_wp2_with fail
  refine (HH1.out _ HD2.out).mono ?_
  rintro e w3 ⟨rfl, hb3⟩
  have HD3 := Lib.hid (HD2.out.under hb3)
  have HV3 := Lib.hid (HV2.out.under hb3)
  have HK3 : Hid (Kept R w w3) := Lib.hid (HK2.out.same (Kept.ofBelow hb3))
  clear hb3
  have c1 := HV3.out.c1
  have c2 := HV3.out.c2
  have f1 := HV3.out.fr 1
  have f2 := HV3.out.fr 2
  have HV4 := Lib.hid (((HV3.out.put2 0 0 (by rfl)).put2 1 1 (by rfl)))
  have HD4 := Lib.hid (((HD3.out.beside HNV.out 2 (.int .i64 0)).beside HNV.out 2 (.int .i64 1)))
  have HK4 := Lib.hid ((HK3.out.new HSA.out 2 (.int .i64 0)).new HSA.out 2 (.int .i64 1))
  go_wp2_with fail
  obtain ⟨W4, hW4⟩ : ∃ W, W = (w3.setCell ⟨vv, 2, none⟩ (.int .i64 0)).setCell ⟨vv, 2, none⟩ (.int .i64 1) := ⟨_, rfl⟩
  rw [← hW4] at HV4 HD4 HK4 ⊢
  clear hW4 c2 c1 f1 f2
  refine (HL.out W4 R (fun k => k = vv) vv _ _ HD4.out HV4.out (fun k hr hk => HNV.out (by rw [← show k = vv from hk]; exact hr)) (Nat.le_trans HBW.out HK4.out.size)).mono ?_
  rintro e w5 ⟨rfl, R5, H5⟩
  have HR5 : Hid (∀ k, R5 k → R k ∨ w.heap.size ≤ k) := Lib.hid (fun k hk => (H5.out.2.2.1 k hk).imp id (Nat.le_trans HK4.out.size))
  have HK5 : Hid (Kept R w w5) := Lib.hid (HK4.out.trans H5.out.2.2.2 (fun k hk h => h.elim id (fun h => by have := HSA.out; exact absurd hk (by rw [show k = vv from h]; omega))))
  have HD5 := Lib.hid H5.out.1
  have HV5 := Lib.hid (inv_both H5.out.2.1 HAE.out HGE.out)
  have HDI5 : Hid (∀ k, R5 k → ¬ (fun k => k = vv) k) := Lib.hid (fun k hr hk => (H5.out.2.2.1 k hr).elim (fun h => HNV.out (by rw [← show k = vv from hk]; exact h)) (fun h => by have := (HV4.out.lt vv rfl).2; rw [show k = vv from hk] at h; omega))
  have HVN5 : Hid (∀ k, (fun k => k = vv) k → w.heap.size ≤ k) := Lib.hid (fun k hk => by rw [show k = vv from hk]; exact HSA.out)
  go_upto_region 14 with (fail)
  obtain ⟨na, nc, n2⟩ := HD5.out.c2
  rw [← HNE.out] at n2
  go_wp2
  clear n2
  go_loopg [8] (hf - 1) (fun gg i wr => ∃ (j : Nat) (V : Nat → Prop) (acc : List ByteArray) (lv : Value), Hid (gg = hf - j) ∧ 1 ≤ j ∧ j ≤ hf ∧ i = .int .i64 (j : Int) ∧ Hid (acc.length + 1 = j) ∧ Hid (X = acc ++ recs S5.now (A * S5.half) G (hf - j) j) ∧ Hid (DskR wr B R5 m g S5 F5) ∧ Hid (InvV wr B V vv m ⟨A, G, acc, false⟩ lv) ∧ Hid (∀ k, R5 k → ¬ V k) ∧ Hid (∀ k, V k → w.heap.size ≤ k) ∧ Hid (Kept R w wr))
  case atStart => exact ⟨1, fun k => k = vv, [], _, Lib.hid rfl, by omega, by omega, rfl, Lib.hid rfl, HX, HD5, HV5, HDI5, HVN5, HK5⟩
  case round =>
    obtain ⟨j, V, acc, lv, HGG, hj1, hj, rfl, HAC, HXX, HD, HV, HDI, HVN, HK⟩ := hrel
    have fin : ∀ wx, Alike wx wr ∨ Below wr.heap.size wr wx → X = acc → OpenedR w B R m g S5 F5 ⟨A, G, X, false⟩ (.returned (.tuple #[.pointer (some ⟨vv, 0, none⟩), .int .i64 0])) wx := fun wx hx hX => by
      rcases hx with hx | hx
      · exact ⟨R5, V, vv, lv, rfl, HD.out.alike hx, by rw [hX]; exact HV.out.alike hx, HDI.out, HR5.out, HVN.out, HK.out.same hx.kept⟩
      · exact ⟨R5, V, vv, lv, rfl, HD.out.under hx, by rw [hX]; exact HV.out.under hx, HDI.out, HR5.out, HVN.out, HK.out.same (Kept.ofBelow hx)⟩
    have FIN := Lib.hid fin
    clear fin
    by_cases hlt : j < hf
    · obtain ⟨i, hi⟩ : ∃ i, i = A * S5.half + j := ⟨_, rfl⟩
      have HIL : Hid (i < S5.now.length) := Lib.hid (by rw [hi, ← HHE.out]; have := HAH.out; omega)
      obtain ⟨kk, cap, c2, ck, hcap⟩ := HD.out.sector i HIL.out
      have hbs := HD.out.good.atSize HIL.out
      have c1 := HV.out.c1
      have c3g := HV.out.c2
      simp only at c1 c3g
      rw [← HNE.out] at c2 hcap
      obtain ⟨b, hb⟩ : ∃ b, b = S5.at i := ⟨_, rfl⟩
      rw [← hb] at ck hbs
      have lm := lt_of_cell c2
      have lk := lt_of_cell ck
      have lv1 := lt_of_cell c1
      have em : IntKind.i64.wrap ((A : Int) * (hf : Int)) = ((A * hf : Nat) : Int) := by
        rw [show (A : Int) * (hf : Int) = ((A * hf : Nat) : Int) from (Int.natCast_mul A hf).symm]
        exact IntWalk.i64_in _ (by have := HAH.out; omega)
      have ei : ((A * hf : Nat) : Int) + (j : Int) = (i : Int) := by rw [hi, ← HHE.out]; omega
      have ew : IntKind.i64.wrap (i : Int) = (i : Int) := IntWalk.i64_in _ (by have := HIL.out; rw [← HNE.out] at this; omega)
      have i0 : (0 : Int) ≤ (i : Int) := by omega
      have i1 : (i : Int) < (n : Int) := by have := HIL.out; rw [← HNE.out] at this; omega
      have HLM := Lib.hid lm
      have HLK := Lib.hid lk
      have HLV := Lib.hid lv1
      have HSZB : Hid (b.size ≤ 1024) := Lib.hid (by rw [hbs]; exact HD.out.good.sz)
      have HB0 : Hid (S5.now.getD (A * S5.half + j) nil = b) := Lib.hid (by rw [hb, hi]; rfl)
      have eAH : ((A * hf : Nat) : Int) = (ah : Int) := by rw [HAHE.out]
      rw [eAH] at em ei
      clear lm lk lv1 hbs hb hi eAH
      by_cases hyes : ∃ p, look b = some (G, j, p)
      · obtain ⟨p, hp⟩ := hyes
        have HLP := Lib.hid hp
        have HG := Lib.hid (fun W => mget_some hp W)
        clear hp
        go_wp2_with fail
        go_region_held3 (fun wx => wx.cell? ⟨m, 2, none⟩ = some (.slice (some ⟨kk, 0, none⟩) n cap) ∧ wx.cell? ⟨kk, i, none⟩ = some (.string b) ∧ wx.cell? ⟨vv, 1, none⟩ = some (.int .i64 (A : Int))) (first | exact ⟨c2, ck, c1⟩ | exact ⟨q2, qk, q1⟩) (first | (go_at_call 41; refine (HG.out _).mono ?_; rintro e w1 ⟨rfl, hb1⟩; have q2 := (hb1.cell (p := ⟨m, 2, none⟩) HLM.out).trans c2; have qk := (hb1.cell (p := ⟨kk, i, none⟩) HLK.out).trans ck; have q1 := (hb1.cell (p := ⟨vv, 1, none⟩) HLV.out).trans c1))
        have HB1 := Lib.hid (below_undrew hb1)
        clear hb1 q1 q2 qk c1 c2 ck
        have HD1 := Lib.hid (HD.out.under HB1.out)
        have HV1 := Lib.hid (HV.out.under HB1.out)
        have c2g := HV1.out.c2
        simp only at c2g
        clear c3g
        obtain ⟨la, lc, c3, hlv⟩ := HV1.out.shape
        simp only at c3 hlv
        obtain ⟨L, hL⟩ : ∃ L, L = acc.length := ⟨_, rfl⟩
        rw [← hL] at c3 hlv
        have HLE := Lib.hid hL
        have HLVE := Lib.hid hlv
        have hL5 : L ≤ 512 := by have := HAC.out; rw [← hL] at this; omega
        have HOW : Hid (w1.ownsRow B 9 1 (.slice la L lc) L (strs acc)) := Lib.hid (by have h := HV1.out.ol; rw [HLVE.out] at h; simp only at h; rw [← hL] at h; exact h)
        clear hL hlv
        have HBS1 : Hid (B ≤ w1.heap.size) := Lib.hid (Nat.le_trans HBW.out (HK.out.same (Kept.ofBelow (P := R) HB1.out)).size)
        go_wp2_with (at_builtin; go_must (refine wpList_append_lies _ rfl (.tmp 107) (.tmp 109) 36 rfl B 9 i9 (.string ⟨#[]⟩) 1 16 Try.underlying36 hi9 hz90 hz91 hz92 rfl (by decide) (.slice la L lc) L (strs acc) rfl (HOW.out.alloc _) ⟨w1.heap.size, 0, none⟩ 1 1 [.string p] rfl rfl (cell_one_new _ _ _) (by simp [Value.oneCell']) (by decide) (by unfold maxLen; omega) (by omega) (by have := HBS1.out; simp; omega) _ rfl ?_); intro g3 cap3 w3 hown3 hgr3 hor3 hlt3; have HI3 := Lib.hid (invV_grown HV1.out HOW.out HLVE.out hown3 hgr3 hor3 hlt3 HLE.out HBS1.out); have HD3 := Lib.hid ((HD1.out.alloc _).grown hgr3 (fun k hk hr => HDI.out k hr (HV1.out.pl k (by rw [HLVE.out]; exact hk)))); have HG3 : Hid (w1.heap.size ≤ g3 ∨ V g3) := Lib.hid (hor3.elim (fun h => .inr (HV1.out.pl _ (by rw [HLVE.out]; exact h))) (fun h => .inl (by rw [h]; simp))); have HK3 := Lib.hid (((HK.out.same (Kept.ofBelow HB1.out)).alloc (.cells #[.string p] 9)).grown hgr3 (fun k hk hlt => absurd (HVN.out k (HV1.out.pl k (by rw [HLVE.out]; exact hk))) (by omega))); clear hown3 hgr3 hor3 hlt3; have c33 := HI3.out.1; have f33 := HI3.out.2.1)
        have HKN : Hid (w.heap.size ≤ w1.heap.size) := Lib.hid (HK.out.same (Kept.ofBelow (P := R) HB1.out)).size
        go_roundg (hf - (j + 1))
        case measure => have := HGG.out; omega
        case rel =>
          refine ⟨j + 1, fun k => V k ∨ k = g3, acc ++ [p], _, Lib.hid rfl, by omega, by omega, by go_num, Lib.hid (by have := HAC.out; simp; omega), Lib.hid ?_, Lib.hid (HD3.out.beside (fun hr => HDI.out vv hr HV1.out.pv) 3 _), Lib.hid HI3.out.2.2, Lib.hid ?_, Lib.hid ?_, Lib.hid (HK3.out.new (HVN.out vv HV1.out.pv) 3 _)⟩
          · rw [HXX.out, show hf - j = (hf - (j + 1)) + 1 by omega, recs_yes (p := p) (by rw [HB0.out]; exact HLP.out), List.append_assoc]
            rfl
          · rintro k hr (hv | rfl)
            · exact HDI.out k hr hv
            · rcases HG3.out with h1 | h1
              · have := (HD1.out.lt _ hr).2; omega
              · exact HDI.out _ hr h1
          · rintro k (hv | rfl)
            · exact HVN.out k hv
            · rcases HG3.out with h1 | h1
              · exact Nat.le_trans HKN.out h1
              · exact HVN.out _ h1
      · have HE : Hid (X = acc) := Lib.hid (by
          rw [HXX.out, recs_no _ (fun p hp => hyes ⟨p, by rw [← HB0.out]; exact hp⟩), List.append_nil])
        cases hlk : look b with
        | none =>
          have HG := Lib.hid (fun W => mget_none hlk W HSZB.out)
          clear hlk hyes
          go_wp2_with fail
          go_region_held3 (fun wx => wx.cell? ⟨m, 2, none⟩ = some (.slice (some ⟨kk, 0, none⟩) n cap) ∧ wx.cell? ⟨kk, i, none⟩ = some (.string b) ∧ wx.cell? ⟨vv, 1, none⟩ = some (.int .i64 (A : Int))) (first | exact ⟨c2, ck, c1⟩ | exact ⟨q2, qk, q1⟩) (first | (go_at_call 41; refine (HG.out _).mono ?_; rintro e w1 ⟨rfl, hb1⟩; have q2 := (hb1.cell (p := ⟨m, 2, none⟩) HLM.out).trans c2; have qk := (hb1.cell (p := ⟨kk, i, none⟩) HLK.out).trans ck; have q1 := (hb1.cell (p := ⟨vv, 1, none⟩) HLV.out).trans c1))
          have HB1 := Lib.hid (below_undrew hb1)
          clear hb1 q1 q2 qk c1 c2 ck c3g
          go_wp2
          go_ret2
          exact FIN.out _ (.inr HB1.out) HE.out
        | some x =>
          obtain ⟨g', n', p⟩ := x
          have HG := Lib.hid (fun W => mget_some hlk W)
          have hne : ¬ (g' = G ∧ n' = j) := fun h => hyes ⟨p, by rw [hlk, h.1, h.2]⟩
          clear hlk hyes
          obtain ⟨gi, hgi⟩ : ∃ gi : Int, gi = (g' : Int) := ⟨_, rfl⟩
          obtain ⟨ni, hni⟩ : ∃ ni : Int, ni = (n' : Int) := ⟨_, rfl⟩
          obtain ⟨GI, hGI⟩ : ∃ GI : Int, GI = (G : Int) := ⟨_, rfl⟩
          rw [← hgi, ← hni] at HG
          have key : ((gi == GI) = false) ∨ ((gi == GI) = true ∧ (ni == (j : Int)) = false) := by
            by_cases h1 : g' = G
            · exact .inr ⟨by simp; omega, by simp; omega⟩
            · exact .inl (by simp; omega)
          have HGI := Lib.hid hGI
          clear hne hgi hni hGI
          rcases key with k1 | ⟨k1, k2⟩
          all_goals
            go_wp2_with fail
            go_region_held3 (fun wx => wx.cell? ⟨m, 2, none⟩ = some (.slice (some ⟨kk, 0, none⟩) n cap) ∧ wx.cell? ⟨kk, i, none⟩ = some (.string b) ∧ wx.cell? ⟨vv, 1, none⟩ = some (.int .i64 (A : Int))) (first | exact ⟨c2, ck, c1⟩ | exact ⟨q2, qk, q1⟩) (first | (go_at_call 41; refine (HG.out _).mono ?_; rintro e w1 ⟨rfl, hb1⟩; have q2 := (hb1.cell (p := ⟨m, 2, none⟩) HLM.out).trans c2; have qk := (hb1.cell (p := ⟨kk, i, none⟩) HLK.out).trans ck; have q1 := (hb1.cell (p := ⟨vv, 1, none⟩) HLV.out).trans c1))
            have HB1 := Lib.hid (below_undrew hb1)
            clear hb1 q1 q2 qk c1 c2 ck c3g
            have c2g := (HV.out.under HB1.out).c2
            simp only at c2g
            rw [← HGI.out] at c2g
            go_wp2
            all_goals
              go_ret2
              exact FIN.out _ (.inr HB1.out) HE.out
    · obtain rfl : j = hf := by omega
      have HE : Hid (X = acc) := Lib.hid (by rw [HXX.out, Nat.sub_self, recs_end, List.append_nil])
      go_wp2
      go_ret2
      exact FIN.out _ (.inl ⟨rfl, rfl, rfl, rfl⟩) HE.out
end Go.Proofs.Ytooikkjgcpngdaa
