/-
  What package fold's Right answers.
-/
import Derived.Test.YtchaeidmjoelnaaFoRight
namespace Go.Proofs.Ytchaeidmjoelnaa
open Go.RowKit

def waS (s : St) : Int := if s.ac = 0 then s.w0 else s.w1
def paS (s : St) : Bool := if s.ac = 0 then s.p0 else s.p1
def roS (s : St) : Int := if s.ac = 0 then s.r1 else s.r0
def woS (s : St) : Int := if s.ac = 0 then s.w1 else s.w0
def poS (s : St) : Bool := if s.ac = 0 then s.p1 else s.p0
def activeS (s : St) : Bool := decide (1 ≤ raS s) && decide (1 ≤ waS s) && paS s
def otherS (s : St) : Bool := if s.ph = 0 then (roS s == 0) && (woS s == 0) && !poS s else decide (1 ≤ roS s) && decide (1 ≤ woS s) && (roS s != raS s) && (poS s == !(s.ph == 1 || s.ph == 2))
def switchS (s : St) : Bool := if s.sw = 0 then true else (s.ph == 3 || s.ph == 6) && decide (1 ≤ s.gn)
theorem right_parts (s : St) : rightS s = (rangesS s && activeS s && otherS s && switchS s) := by
  obtain ⟨ph, ac, r0, r1, w0, w1, p0, p1, dl, gn, sw, fl⟩ := s
  rw [Bool.eq_iff_iff]
  unfold rightS rangesS activeS otherS switchS raS waS paS roS woS poS inR RightX
  by_cases h0 : ac = 0
  · subst h0
    cases p0 <;> cases p1 <;> by_cases hp : ph = 0 <;> by_cases hs : sw = 0 <;> simp [hp, hs] <;> omega
  · by_cases h1 : ac = 1
    · subst h1
      cases p0 <;> cases p1 <;> by_cases hp : ph = 0 <;> by_cases hs : sw = 0 <;> simp [hp, hs] <;> omega
    · simp [h0, h1]
      omega
theorem ranges_ac {s : St} (h : rangesS s = true) : s.ac = 0 ∨ s.ac = 1 := by
  unfold rangesS inR at h
  simp at h
  omega
set_option maxRecDepth 100000 in
set_option maxHeartbeats 4000000 in
theorem active_0 (s : St) (w : World) (hac : s.ac = 0) : Calls Try.prog 53 #[stV s] w fun e w' => e = .returned (.bool (activeS s)) ∧ Below w.heap.size w w' := by
  obtain ⟨ph, ac, r0, r1, w0, w1, p0, p1, dl, gn, sw, fl⟩ := s
  obtain rfl : ac = 0 := hac
  unfold stV
  obtain ⟨cs, hcs⟩ : ∃ c, c = stC ⟨ph, 0, r0, r1, w0, w1, p0, p1, dl, gn, sw, fl⟩ := ⟨_, rfl⟩
  rw [← hcs]
  have HC := Lib.hid hcs
  have HZC : Hid (cs.size = 12) := Lib.hid (by rw [hcs]; rfl)
  clear hcs
  go_enter Try.func53, Try.ntmps53
  go_upto_region 1 with (fail)
  refine name_w (fun W => Rw W w.heap.size cs 38 ∧ Below w.heap.size w W) ⟨Rw.new _ _ _, (Below.refl _ _).alloc (Nat.le_refl _) _⟩ ?_
  rintro W ⟨hR, hb⟩
  have HB := Lib.hid hb
  have HR := Lib.hid hR
  have c1 : W.cell? ⟨w.heap.size, 1, none⟩ = some (.int .i64 0) := by rw [hR.cell 1, HC.out]; rfl
  have c2 : W.cell? ⟨w.heap.size, 2, none⟩ = some (.int .i64 r0) := by rw [hR.cell 2, HC.out]; rfl
  have c4 : W.cell? ⟨w.heap.size, 4, none⟩ = some (.int .i64 w0) := by rw [hR.cell 4, HC.out]; rfl
  have c6 : W.cell? ⟨w.heap.size, 6, none⟩ = some (.bool p0) := by rw [hR.cell 6, HC.out]; rfl
  clear hR hb
  by_cases h1 : 1 ≤ r0
  case neg =>
    have e1 : decide (1 ≤ r0) = false := by simpa using h1
    have HE : Hid (activeS ⟨ph, 0, r0, r1, w0, w1, p0, p1, dl, gn, sw, fl⟩ = false) := Lib.hid (by show (decide (1 ≤ r0) && decide (1 ≤ w0) && p0) = false; rw [e1]; first | done | rfl)
    clear h1
    go_wp2
    go_ret
    exact ⟨by rw [HE.out]; rfl, HB.out⟩
  have e1 : decide (1 ≤ r0) = true := by simpa using h1
  by_cases h2 : 1 ≤ w0
  case neg =>
    have e2 : decide (1 ≤ w0) = false := by simpa using h2
    have HE : Hid (activeS ⟨ph, 0, r0, r1, w0, w1, p0, p1, dl, gn, sw, fl⟩ = false) := Lib.hid (by show (decide (1 ≤ r0) && decide (1 ≤ w0) && p0) = false; rw [e1, e2]; first | done | rfl)
    clear h1 h2
    go_wp2
    go_ret
    exact ⟨by rw [HE.out]; rfl, HB.out⟩
  have e2 : decide (1 ≤ w0) = true := by simpa using h2
  have HE : Hid (activeS ⟨ph, 0, r0, r1, w0, w1, p0, p1, dl, gn, sw, fl⟩ = p0) := Lib.hid (by show (decide (1 ≤ r0) && decide (1 ≤ w0) && p0) = p0; rw [e1, e2]; first | done | rfl)
  clear h1 h2
  go_wp2
  go_ret
  exact ⟨by rw [HE.out]; rfl, HB.out⟩
set_option maxRecDepth 100000 in
set_option maxHeartbeats 4000000 in
theorem other_right_0 (s : St) (w : World) (hac : s.ac = 0) : Calls Try.prog 54 #[stV s] w fun e w' => e = .returned (.bool (otherS s)) ∧ Below w.heap.size w w' := by
  have HO : Hid (∀ W, Calls Try.prog 64 #[stV s] W fun e w' => e = .returned (.int .i64 1) ∧ Below W.heap.size W w') := Lib.hid (fun W => other_0 s W hac)
  obtain ⟨ph, ac, r0, r1, w0, w1, p0, p1, dl, gn, sw, fl⟩ := s
  obtain rfl : ac = 0 := hac
  unfold stV
  obtain ⟨cs, hcs⟩ : ∃ c, c = stC ⟨ph, 0, r0, r1, w0, w1, p0, p1, dl, gn, sw, fl⟩ := ⟨_, rfl⟩
  unfold stV at HO
  rw [← hcs] at HO ⊢
  have HC := Lib.hid hcs
  have HZC : Hid (cs.size = 12) := Lib.hid (by rw [hcs]; rfl)
  clear hcs
  go_enter Try.func54, Try.ntmps54
  go_upto_region 1 with (fail)
  refine name_w (fun W => Rw W w.heap.size cs 38 ∧ Below w.heap.size w W) ⟨Rw.new _ _ _, (Below.refl _ _).alloc (Nat.le_refl _) _⟩ ?_
  rintro W ⟨hR, hb⟩
  have HB := Lib.hid hb
  have HR := Lib.hid hR
  clear hR hb
  go_wp2_with (refine wpList_load_any (by rfl) 38 (.tmp 1) rfl w.heap.size rfl 38 cs (0, 0) _ HR.out Try.underlying38 rfl (by rw [HZC.out]; exact i12) ?_)
  refine (HO.out _).mono ?_
  rintro e u1 ⟨rfl, hb⟩
  have RU := Lib.hid (HR.out.under hb HR.out.lt)
  have BU := Lib.hid (HB.out.trans (hb.mono HB.out.size))
  clear hb HO
  have c0 : u1.cell? ⟨w.heap.size, 0, none⟩ = some (.int .i64 ph) := by rw [RU.out.cell 0, HC.out]; rfl
  have c1 : u1.cell? ⟨w.heap.size, 1, none⟩ = some (.int .i64 0) := by rw [RU.out.cell 1, HC.out]; rfl
  have c2 : u1.cell? ⟨w.heap.size, 2, none⟩ = some (.int .i64 r0) := by rw [RU.out.cell 2, HC.out]; rfl
  have c3 : u1.cell? ⟨w.heap.size, 3, none⟩ = some (.int .i64 r1) := by rw [RU.out.cell 3, HC.out]; rfl
  have c4 : u1.cell? ⟨w.heap.size, 4, none⟩ = some (.int .i64 w0) := by rw [RU.out.cell 4, HC.out]; rfl
  have c5 : u1.cell? ⟨w.heap.size, 5, none⟩ = some (.int .i64 w1) := by rw [RU.out.cell 5, HC.out]; rfl
  have c6 : u1.cell? ⟨w.heap.size, 6, none⟩ = some (.bool p0) := by rw [RU.out.cell 6, HC.out]; rfl
  have c7 : u1.cell? ⟨w.heap.size, 7, none⟩ = some (.bool p1) := by rw [RU.out.cell 7, HC.out]; rfl
  go_upto_region 2 with (fail)
  go_wp2_with fail
  go_quiet (fail)
  go_upto_region 3 with (fail)
  clear c0 c1 c2 c3 c4 c5 c6 c7
  refine name_w (fun W => Rw W w.heap.size cs 38 ∧ Below w.heap.size w W) ⟨RU.out.under (below_drewN _ _ _) RU.out.lt, BU.out.trans (below_drewN _ _ _)⟩ ?_
  rintro U ⟨hR, hb⟩
  have HBU := Lib.hid hb
  have c0 : U.cell? ⟨w.heap.size, 0, none⟩ = some (.int .i64 ph) := by rw [hR.cell 0, HC.out]; rfl
  have c1 : U.cell? ⟨w.heap.size, 1, none⟩ = some (.int .i64 0) := by rw [hR.cell 1, HC.out]; rfl
  have c2 : U.cell? ⟨w.heap.size, 2, none⟩ = some (.int .i64 r0) := by rw [hR.cell 2, HC.out]; rfl
  have c3 : U.cell? ⟨w.heap.size, 3, none⟩ = some (.int .i64 r1) := by rw [hR.cell 3, HC.out]; rfl
  have c4 : U.cell? ⟨w.heap.size, 4, none⟩ = some (.int .i64 w0) := by rw [hR.cell 4, HC.out]; rfl
  have c5 : U.cell? ⟨w.heap.size, 5, none⟩ = some (.int .i64 w1) := by rw [hR.cell 5, HC.out]; rfl
  have c6 : U.cell? ⟨w.heap.size, 6, none⟩ = some (.bool p0) := by rw [hR.cell 6, HC.out]; rfl
  have c7 : U.cell? ⟨w.heap.size, 7, none⟩ = some (.bool p1) := by rw [hR.cell 7, HC.out]; rfl
  clear hR hb
  by_cases hp : ph = 0
  case pos =>
    subst hp
    have ho : otherS ⟨0, 0, r0, r1, w0, w1, p0, p1, dl, gn, sw, fl⟩ = ((r1 == 0) && (w1 == 0) && !p1) := rfl
    cases g1 : (r1 == 0) with
    | false =>
      have HE : Hid (otherS ⟨0, 0, r0, r1, w0, w1, p0, p1, dl, gn, sw, fl⟩ = false) := Lib.hid (by rw [ho, g1]; first | done | rfl)
      clear ho
      go_wp2
      go_ret
      exact ⟨by rw [HE.out]; rfl, HBU.out⟩
    | true =>
    cases g2 : (w1 == 0) with
    | false =>
      have HE : Hid (otherS ⟨0, 0, r0, r1, w0, w1, p0, p1, dl, gn, sw, fl⟩ = false) := Lib.hid (by rw [ho, g1, g2]; first | done | rfl)
      clear ho
      go_wp2
      go_ret
      exact ⟨by rw [HE.out]; rfl, HBU.out⟩
    | true =>
    have HE : Hid (otherS ⟨0, 0, r0, r1, w0, w1, p0, p1, dl, gn, sw, fl⟩ = !p1) := Lib.hid (by rw [ho, g1, g2]; first | done | rfl)
    clear ho
    go_wp2
    go_ret
    exact ⟨by rw [HE.out]; rfl, HBU.out⟩
  have fp : (ph == 0) = false := by simpa using hp
  have ho : otherS ⟨ph, 0, r0, r1, w0, w1, p0, p1, dl, gn, sw, fl⟩ = (decide (1 ≤ r1) && decide (1 ≤ w1) && (r1 != r0) && (p1 == !(ph == 1 || ph == 2))) := by unfold otherS; rw [if_neg hp]; rfl
  clear hp
  obtain ⟨ah, hah⟩ : ∃ ah, ah = (ph == 1 || ph == 2) := ⟨_, rfl⟩
  rw [← hah] at ho
  have HO := Lib.hid ho
  have HAH : Hid ((ph == 1) = true ∧ ah = true ∨ (ph == 1) = false ∧ (ph == 2) = ah) := Lib.hid (by rw [hah]; cases (ph == 1) <;> simp)
  clear ho hah
  rcases HAH.out with ⟨f1, fa⟩ | ⟨f1, fa⟩
  · subst fa
    go_upto_region 6 with (fail)
    cases g1 : decide (1 ≤ r1) with
    | false =>
      have HE : Hid (otherS ⟨ph, 0, r0, r1, w0, w1, p0, p1, dl, gn, sw, fl⟩ = false) := Lib.hid (by rw [HO.out, g1]; first | done | rfl)
      clear HAH
      go_wp2
      go_ret
      exact ⟨by rw [HE.out]; rfl, HBU.out⟩
    | true =>
    cases g2 : decide (1 ≤ w1) with
    | false =>
      have HE : Hid (otherS ⟨ph, 0, r0, r1, w0, w1, p0, p1, dl, gn, sw, fl⟩ = false) := Lib.hid (by rw [HO.out, g1, g2]; first | done | rfl)
      clear HAH
      go_wp2
      go_ret
      exact ⟨by rw [HE.out]; rfl, HBU.out⟩
    | true =>
    cases g3 : (r1 != r0) with
    | false =>
      have HE : Hid (otherS ⟨ph, 0, r0, r1, w0, w1, p0, p1, dl, gn, sw, fl⟩ = false) := Lib.hid (by rw [HO.out, g1, g2, g3]; first | done | rfl)
      clear HAH
      go_wp2
      go_ret
      exact ⟨by rw [HE.out]; rfl, HBU.out⟩
    | true =>
    have HE : Hid (otherS ⟨ph, 0, r0, r1, w0, w1, p0, p1, dl, gn, sw, fl⟩ = (!p1)) := Lib.hid (by rw [HO.out, g1, g2, g3]; cases p1 <;> rfl)
    clear HAH
    go_wp2
    go_ret
    exact ⟨by rw [HE.out]; rfl, HBU.out⟩
  · go_upto_region 6 with (fail)
    cases g1 : decide (1 ≤ r1) with
    | false =>
      have HE : Hid (otherS ⟨ph, 0, r0, r1, w0, w1, p0, p1, dl, gn, sw, fl⟩ = false) := Lib.hid (by rw [HO.out, g1]; first | done | rfl)
      clear HAH
      go_wp2
      go_ret
      exact ⟨by rw [HE.out]; rfl, HBU.out⟩
    | true =>
    cases g2 : decide (1 ≤ w1) with
    | false =>
      have HE : Hid (otherS ⟨ph, 0, r0, r1, w0, w1, p0, p1, dl, gn, sw, fl⟩ = false) := Lib.hid (by rw [HO.out, g1, g2]; first | done | rfl)
      clear HAH
      go_wp2
      go_ret
      exact ⟨by rw [HE.out]; rfl, HBU.out⟩
    | true =>
    cases g3 : (r1 != r0) with
    | false =>
      have HE : Hid (otherS ⟨ph, 0, r0, r1, w0, w1, p0, p1, dl, gn, sw, fl⟩ = false) := Lib.hid (by rw [HO.out, g1, g2, g3]; first | done | rfl)
      clear HAH
      go_wp2
      go_ret
      exact ⟨by rw [HE.out]; rfl, HBU.out⟩
    | true =>
    have HE : Hid (otherS ⟨ph, 0, r0, r1, w0, w1, p0, p1, dl, gn, sw, fl⟩ = ((p1 == !ah))) := Lib.hid (by rw [HO.out, g1, g2, g3]; first | done | rfl)
    clear HAH
    go_wp2
    go_ret
    exact ⟨by rw [HE.out]; rfl, HBU.out⟩
set_option maxRecDepth 100000 in
set_option maxHeartbeats 4000000 in
theorem active_1 (s : St) (w : World) (hac : s.ac = 1) : Calls Try.prog 53 #[stV s] w fun e w' => e = .returned (.bool (activeS s)) ∧ Below w.heap.size w w' := by
  obtain ⟨ph, ac, r0, r1, w0, w1, p0, p1, dl, gn, sw, fl⟩ := s
  obtain rfl : ac = 1 := hac
  unfold stV
  obtain ⟨cs, hcs⟩ : ∃ c, c = stC ⟨ph, 1, r0, r1, w0, w1, p0, p1, dl, gn, sw, fl⟩ := ⟨_, rfl⟩
  rw [← hcs]
  have HC := Lib.hid hcs
  have HZC : Hid (cs.size = 12) := Lib.hid (by rw [hcs]; rfl)
  clear hcs
  go_enter Try.func53, Try.ntmps53
  go_upto_region 1 with (fail)
  refine name_w (fun W => Rw W w.heap.size cs 38 ∧ Below w.heap.size w W) ⟨Rw.new _ _ _, (Below.refl _ _).alloc (Nat.le_refl _) _⟩ ?_
  rintro W ⟨hR, hb⟩
  have HB := Lib.hid hb
  have HR := Lib.hid hR
  have c1 : W.cell? ⟨w.heap.size, 1, none⟩ = some (.int .i64 1) := by rw [hR.cell 1, HC.out]; rfl
  have c3 : W.cell? ⟨w.heap.size, 3, none⟩ = some (.int .i64 r1) := by rw [hR.cell 3, HC.out]; rfl
  have c5 : W.cell? ⟨w.heap.size, 5, none⟩ = some (.int .i64 w1) := by rw [hR.cell 5, HC.out]; rfl
  have c7 : W.cell? ⟨w.heap.size, 7, none⟩ = some (.bool p1) := by rw [hR.cell 7, HC.out]; rfl
  clear hR hb
  by_cases h1 : 1 ≤ r1
  case neg =>
    have e1 : decide (1 ≤ r1) = false := by simpa using h1
    have HE : Hid (activeS ⟨ph, 1, r0, r1, w0, w1, p0, p1, dl, gn, sw, fl⟩ = false) := Lib.hid (by show (decide (1 ≤ r1) && decide (1 ≤ w1) && p1) = false; rw [e1]; first | done | rfl)
    clear h1
    go_wp2
    go_ret
    exact ⟨by rw [HE.out]; rfl, HB.out⟩
  have e1 : decide (1 ≤ r1) = true := by simpa using h1
  by_cases h2 : 1 ≤ w1
  case neg =>
    have e2 : decide (1 ≤ w1) = false := by simpa using h2
    have HE : Hid (activeS ⟨ph, 1, r0, r1, w0, w1, p0, p1, dl, gn, sw, fl⟩ = false) := Lib.hid (by show (decide (1 ≤ r1) && decide (1 ≤ w1) && p1) = false; rw [e1, e2]; first | done | rfl)
    clear h1 h2
    go_wp2
    go_ret
    exact ⟨by rw [HE.out]; rfl, HB.out⟩
  have e2 : decide (1 ≤ w1) = true := by simpa using h2
  have HE : Hid (activeS ⟨ph, 1, r0, r1, w0, w1, p0, p1, dl, gn, sw, fl⟩ = p1) := Lib.hid (by show (decide (1 ≤ r1) && decide (1 ≤ w1) && p1) = p1; rw [e1, e2]; first | done | rfl)
  clear h1 h2
  go_wp2
  go_ret
  exact ⟨by rw [HE.out]; rfl, HB.out⟩
set_option maxRecDepth 100000 in
set_option maxHeartbeats 4000000 in
theorem other_right_1 (s : St) (w : World) (hac : s.ac = 1) : Calls Try.prog 54 #[stV s] w fun e w' => e = .returned (.bool (otherS s)) ∧ Below w.heap.size w w' := by
  have HO : Hid (∀ W, Calls Try.prog 64 #[stV s] W fun e w' => e = .returned (.int .i64 0) ∧ Below W.heap.size W w') := Lib.hid (fun W => other_1 s W hac)
  obtain ⟨ph, ac, r0, r1, w0, w1, p0, p1, dl, gn, sw, fl⟩ := s
  obtain rfl : ac = 1 := hac
  unfold stV
  obtain ⟨cs, hcs⟩ : ∃ c, c = stC ⟨ph, 1, r0, r1, w0, w1, p0, p1, dl, gn, sw, fl⟩ := ⟨_, rfl⟩
  unfold stV at HO
  rw [← hcs] at HO ⊢
  have HC := Lib.hid hcs
  have HZC : Hid (cs.size = 12) := Lib.hid (by rw [hcs]; rfl)
  clear hcs
  go_enter Try.func54, Try.ntmps54
  go_upto_region 1 with (fail)
  refine name_w (fun W => Rw W w.heap.size cs 38 ∧ Below w.heap.size w W) ⟨Rw.new _ _ _, (Below.refl _ _).alloc (Nat.le_refl _) _⟩ ?_
  rintro W ⟨hR, hb⟩
  have HB := Lib.hid hb
  have HR := Lib.hid hR
  clear hR hb
  go_wp2_with (refine wpList_load_any (by rfl) 38 (.tmp 1) rfl w.heap.size rfl 38 cs (0, 0) _ HR.out Try.underlying38 rfl (by rw [HZC.out]; exact i12) ?_)
  refine (HO.out _).mono ?_
  rintro e u1 ⟨rfl, hb⟩
  have RU := Lib.hid (HR.out.under hb HR.out.lt)
  have BU := Lib.hid (HB.out.trans (hb.mono HB.out.size))
  clear hb HO
  have c0 : u1.cell? ⟨w.heap.size, 0, none⟩ = some (.int .i64 ph) := by rw [RU.out.cell 0, HC.out]; rfl
  have c1 : u1.cell? ⟨w.heap.size, 1, none⟩ = some (.int .i64 1) := by rw [RU.out.cell 1, HC.out]; rfl
  have c2 : u1.cell? ⟨w.heap.size, 2, none⟩ = some (.int .i64 r0) := by rw [RU.out.cell 2, HC.out]; rfl
  have c3 : u1.cell? ⟨w.heap.size, 3, none⟩ = some (.int .i64 r1) := by rw [RU.out.cell 3, HC.out]; rfl
  have c4 : u1.cell? ⟨w.heap.size, 4, none⟩ = some (.int .i64 w0) := by rw [RU.out.cell 4, HC.out]; rfl
  have c5 : u1.cell? ⟨w.heap.size, 5, none⟩ = some (.int .i64 w1) := by rw [RU.out.cell 5, HC.out]; rfl
  have c6 : u1.cell? ⟨w.heap.size, 6, none⟩ = some (.bool p0) := by rw [RU.out.cell 6, HC.out]; rfl
  have c7 : u1.cell? ⟨w.heap.size, 7, none⟩ = some (.bool p1) := by rw [RU.out.cell 7, HC.out]; rfl
  go_upto_region 2 with (fail)
  go_wp2_with fail
  go_quiet (fail)
  go_upto_region 3 with (fail)
  clear c0 c1 c2 c3 c4 c5 c6 c7
  refine name_w (fun W => Rw W w.heap.size cs 38 ∧ Below w.heap.size w W) ⟨RU.out.under (below_drewN _ _ _) RU.out.lt, BU.out.trans (below_drewN _ _ _)⟩ ?_
  rintro U ⟨hR, hb⟩
  have HBU := Lib.hid hb
  have c0 : U.cell? ⟨w.heap.size, 0, none⟩ = some (.int .i64 ph) := by rw [hR.cell 0, HC.out]; rfl
  have c1 : U.cell? ⟨w.heap.size, 1, none⟩ = some (.int .i64 1) := by rw [hR.cell 1, HC.out]; rfl
  have c2 : U.cell? ⟨w.heap.size, 2, none⟩ = some (.int .i64 r0) := by rw [hR.cell 2, HC.out]; rfl
  have c3 : U.cell? ⟨w.heap.size, 3, none⟩ = some (.int .i64 r1) := by rw [hR.cell 3, HC.out]; rfl
  have c4 : U.cell? ⟨w.heap.size, 4, none⟩ = some (.int .i64 w0) := by rw [hR.cell 4, HC.out]; rfl
  have c5 : U.cell? ⟨w.heap.size, 5, none⟩ = some (.int .i64 w1) := by rw [hR.cell 5, HC.out]; rfl
  have c6 : U.cell? ⟨w.heap.size, 6, none⟩ = some (.bool p0) := by rw [hR.cell 6, HC.out]; rfl
  have c7 : U.cell? ⟨w.heap.size, 7, none⟩ = some (.bool p1) := by rw [hR.cell 7, HC.out]; rfl
  clear hR hb
  by_cases hp : ph = 0
  case pos =>
    subst hp
    have ho : otherS ⟨0, 1, r0, r1, w0, w1, p0, p1, dl, gn, sw, fl⟩ = ((r0 == 0) && (w0 == 0) && !p0) := rfl
    cases g1 : (r0 == 0) with
    | false =>
      have HE : Hid (otherS ⟨0, 1, r0, r1, w0, w1, p0, p1, dl, gn, sw, fl⟩ = false) := Lib.hid (by rw [ho, g1]; first | done | rfl)
      clear ho
      go_wp2
      go_ret
      exact ⟨by rw [HE.out]; rfl, HBU.out⟩
    | true =>
    cases g2 : (w0 == 0) with
    | false =>
      have HE : Hid (otherS ⟨0, 1, r0, r1, w0, w1, p0, p1, dl, gn, sw, fl⟩ = false) := Lib.hid (by rw [ho, g1, g2]; first | done | rfl)
      clear ho
      go_wp2
      go_ret
      exact ⟨by rw [HE.out]; rfl, HBU.out⟩
    | true =>
    have HE : Hid (otherS ⟨0, 1, r0, r1, w0, w1, p0, p1, dl, gn, sw, fl⟩ = !p0) := Lib.hid (by rw [ho, g1, g2]; first | done | rfl)
    clear ho
    go_wp2
    go_ret
    exact ⟨by rw [HE.out]; rfl, HBU.out⟩
  have fp : (ph == 0) = false := by simpa using hp
  have ho : otherS ⟨ph, 1, r0, r1, w0, w1, p0, p1, dl, gn, sw, fl⟩ = (decide (1 ≤ r0) && decide (1 ≤ w0) && (r0 != r1) && (p0 == !(ph == 1 || ph == 2))) := by unfold otherS; rw [if_neg hp]; rfl
  clear hp
  obtain ⟨ah, hah⟩ : ∃ ah, ah = (ph == 1 || ph == 2) := ⟨_, rfl⟩
  rw [← hah] at ho
  have HO := Lib.hid ho
  have HAH : Hid ((ph == 1) = true ∧ ah = true ∨ (ph == 1) = false ∧ (ph == 2) = ah) := Lib.hid (by rw [hah]; cases (ph == 1) <;> simp)
  clear ho hah
  rcases HAH.out with ⟨f1, fa⟩ | ⟨f1, fa⟩
  · subst fa
    go_upto_region 6 with (fail)
    cases g1 : decide (1 ≤ r0) with
    | false =>
      have HE : Hid (otherS ⟨ph, 1, r0, r1, w0, w1, p0, p1, dl, gn, sw, fl⟩ = false) := Lib.hid (by rw [HO.out, g1]; first | done | rfl)
      clear HAH
      go_wp2
      go_ret
      exact ⟨by rw [HE.out]; rfl, HBU.out⟩
    | true =>
    cases g2 : decide (1 ≤ w0) with
    | false =>
      have HE : Hid (otherS ⟨ph, 1, r0, r1, w0, w1, p0, p1, dl, gn, sw, fl⟩ = false) := Lib.hid (by rw [HO.out, g1, g2]; first | done | rfl)
      clear HAH
      go_wp2
      go_ret
      exact ⟨by rw [HE.out]; rfl, HBU.out⟩
    | true =>
    cases g3 : (r0 != r1) with
    | false =>
      have HE : Hid (otherS ⟨ph, 1, r0, r1, w0, w1, p0, p1, dl, gn, sw, fl⟩ = false) := Lib.hid (by rw [HO.out, g1, g2, g3]; first | done | rfl)
      clear HAH
      go_wp2
      go_ret
      exact ⟨by rw [HE.out]; rfl, HBU.out⟩
    | true =>
    have HE : Hid (otherS ⟨ph, 1, r0, r1, w0, w1, p0, p1, dl, gn, sw, fl⟩ = (!p0)) := Lib.hid (by rw [HO.out, g1, g2, g3]; cases p0 <;> rfl)
    clear HAH
    go_wp2
    go_ret
    exact ⟨by rw [HE.out]; rfl, HBU.out⟩
  · go_upto_region 6 with (fail)
    cases g1 : decide (1 ≤ r0) with
    | false =>
      have HE : Hid (otherS ⟨ph, 1, r0, r1, w0, w1, p0, p1, dl, gn, sw, fl⟩ = false) := Lib.hid (by rw [HO.out, g1]; first | done | rfl)
      clear HAH
      go_wp2
      go_ret
      exact ⟨by rw [HE.out]; rfl, HBU.out⟩
    | true =>
    cases g2 : decide (1 ≤ w0) with
    | false =>
      have HE : Hid (otherS ⟨ph, 1, r0, r1, w0, w1, p0, p1, dl, gn, sw, fl⟩ = false) := Lib.hid (by rw [HO.out, g1, g2]; first | done | rfl)
      clear HAH
      go_wp2
      go_ret
      exact ⟨by rw [HE.out]; rfl, HBU.out⟩
    | true =>
    cases g3 : (r0 != r1) with
    | false =>
      have HE : Hid (otherS ⟨ph, 1, r0, r1, w0, w1, p0, p1, dl, gn, sw, fl⟩ = false) := Lib.hid (by rw [HO.out, g1, g2, g3]; first | done | rfl)
      clear HAH
      go_wp2
      go_ret
      exact ⟨by rw [HE.out]; rfl, HBU.out⟩
    | true =>
    have HE : Hid (otherS ⟨ph, 1, r0, r1, w0, w1, p0, p1, dl, gn, sw, fl⟩ = ((p0 == !ah))) := Lib.hid (by rw [HO.out, g1, g2, g3]; first | done | rfl)
    clear HAH
    go_wp2
    go_ret
    exact ⟨by rw [HE.out]; rfl, HBU.out⟩
set_option maxRecDepth 100000 in
set_option maxHeartbeats 4000000 in
theorem switch_any (s : St) (w : World) : Calls Try.prog 55 #[stV s] w fun e w' => e = .returned (.bool (switchS s)) ∧ Below w.heap.size w w' := by
  obtain ⟨ph, ac, r0, r1, w0, w1, p0, p1, dl, gn, sw, fl⟩ := s
  unfold stV
  obtain ⟨cs, hcs⟩ : ∃ c, c = stC ⟨ph, ac, r0, r1, w0, w1, p0, p1, dl, gn, sw, fl⟩ := ⟨_, rfl⟩
  rw [← hcs]
  have HC := Lib.hid hcs
  have HZC : Hid (cs.size = 12) := Lib.hid (by rw [hcs]; rfl)
  clear hcs
  go_enter Try.func55, Try.ntmps55
  go_upto_region 1 with (fail)
  refine name_w (fun W => Rw W w.heap.size cs 38 ∧ Below w.heap.size w W) ⟨Rw.new _ _ _, (Below.refl _ _).alloc (Nat.le_refl _) _⟩ ?_
  rintro W ⟨hR, hb⟩
  have HB := Lib.hid hb
  have HR := Lib.hid hR
  have c0 : W.cell? ⟨w.heap.size, 0, none⟩ = some (.int .i64 ph) := by rw [hR.cell 0, HC.out]; rfl
  have c9 : W.cell? ⟨w.heap.size, 9, none⟩ = some (.int .i64 gn) := by rw [hR.cell 9, HC.out]; rfl
  have c10 : W.cell? ⟨w.heap.size, 10, none⟩ = some (.int .i64 sw) := by rw [hR.cell 10, HC.out]; rfl
  clear hR hb
  by_cases hs : sw = 0
  case pos =>
    have fs : (sw == 0) = true := by simpa using hs
    have HE : Hid (switchS ⟨ph, ac, r0, r1, w0, w1, p0, p1, dl, gn, sw, fl⟩ = true) := Lib.hid (by unfold switchS; rw [if_pos hs])
    clear hs
    go_wp2
    go_ret
    exact ⟨by rw [HE.out]; rfl, HB.out⟩
  have fs : (sw == 0) = false := by simpa using hs
  have ho : switchS ⟨ph, ac, r0, r1, w0, w1, p0, p1, dl, gn, sw, fl⟩ = ((ph == 3 || ph == 6) && decide (1 ≤ gn)) := by unfold switchS; rw [if_neg hs]
  clear hs
  cases g1 : (ph == 3) with
  | true =>
    have HE : Hid (switchS ⟨ph, ac, r0, r1, w0, w1, p0, p1, dl, gn, sw, fl⟩ = decide (1 ≤ gn)) := Lib.hid (by rw [ho, g1]; first | done | rfl)
    clear ho
    go_wp2
    go_ret
    exact ⟨by rw [HE.out]; rfl, HB.out⟩
  | false =>
  cases g2 : (ph == 6) with
  | true =>
    have HE : Hid (switchS ⟨ph, ac, r0, r1, w0, w1, p0, p1, dl, gn, sw, fl⟩ = decide (1 ≤ gn)) := Lib.hid (by rw [ho, g1, g2]; first | done | rfl)
    clear ho
    go_wp2
    go_ret
    exact ⟨by rw [HE.out]; rfl, HB.out⟩
  | false =>
    have HE : Hid (switchS ⟨ph, ac, r0, r1, w0, w1, p0, p1, dl, gn, sw, fl⟩ = false) := Lib.hid (by rw [ho, g1, g2]; first | done | rfl)
    clear ho
    go_wp2
    go_ret
    exact ⟨by rw [HE.out]; rfl, HB.out⟩
theorem active_any (s : St) (w : World) (h : s.ac = 0 ∨ s.ac = 1) : Calls Try.prog 53 #[stV s] w fun e w' => e = .returned (.bool (activeS s)) ∧ Below w.heap.size w w' := h.elim (active_0 s w) (active_1 s w)
theorem other_right_any (s : St) (w : World) (h : s.ac = 0 ∨ s.ac = 1) : Calls Try.prog 54 #[stV s] w fun e w' => e = .returned (.bool (otherS s)) ∧ Below w.heap.size w w' := h.elim (other_right_0 s w) (other_right_1 s w)
set_option maxRecDepth 100000 in
set_option maxHeartbeats 4000000 in
theorem right_any (s : St) (w : World) : Calls Try.prog 37 #[stV s] w fun e w' => e = .returned (.bool (rightS s)) ∧ Below w.heap.size w w' := by
  have HP := Lib.hid (right_parts s)
  have R0 : Hid (∀ W, Calls Try.prog 52 #[stV s] W fun e w' => e = .returned (.bool (rangesS s)) ∧ Below W.heap.size W w') := Lib.hid (fun W => ranges_any s W)
  have R1 : Hid (rangesS s = true → ∀ W, Calls Try.prog 53 #[stV s] W fun e w' => e = .returned (.bool (activeS s)) ∧ Below W.heap.size W w') := Lib.hid (fun h W => active_any s W (ranges_ac h))
  have R2 : Hid (rangesS s = true → ∀ W, Calls Try.prog 54 #[stV s] W fun e w' => e = .returned (.bool (otherS s)) ∧ Below W.heap.size W w') := Lib.hid (fun h W => other_right_any s W (ranges_ac h))
  have R3 : Hid (∀ W, Calls Try.prog 55 #[stV s] W fun e w' => e = .returned (.bool (switchS s)) ∧ Below W.heap.size W w') := Lib.hid (fun W => switch_any s W)
  unfold stV at *
  obtain ⟨cs, hcs⟩ : ∃ c, c = stC s := ⟨_, rfl⟩
  rw [← hcs] at R0 R1 R2 R3 ⊢
  have HZC : Hid (cs.size = 12) := Lib.hid (by rw [hcs]; rfl)
  clear hcs
  go_enter Try.func37, Try.ntmps37
  go_upto_region 1 with (fail)
  refine name_w (fun W => Rw W w.heap.size cs 38 ∧ Below w.heap.size w W) ⟨Rw.new _ _ _, (Below.refl _ _).alloc (Nat.le_refl _) _⟩ ?_
  rintro W0 ⟨hR, hb⟩
  have HB0 := Lib.hid hb
  have HR0 := Lib.hid hR
  clear hR hb
  cases p0 : rangesS s with
  | false =>
    have HE : Hid (rightS s = false) := Lib.hid (by rw [HP.out, p0]; first | done | rfl)
    have H0 : Hid (∀ W, Calls Try.prog 52 #[.agg cs] W fun e w' => e = .returned (.bool false) ∧ Below W.heap.size W w') := Lib.hid (by have h := R0.out; rw [p0] at h; exact h)
    clear p0 R0 R1 R2 R3 HP
    go_wp2_with (refine wpList_load_any (by rfl) 38 (.tmp 1) rfl w.heap.size rfl 38 cs (0, 0) _ HR0.out Try.underlying38 rfl (by rw [HZC.out]; exact i12) ?_)
    refine (H0.out _).mono ?_
    rintro e W1 ⟨rfl, hb⟩
    have HR1 := Lib.hid (HR0.out.under hb HR0.out.lt)
    have HB1 := Lib.hid (HB0.out.trans (hb.mono HB0.out.size))
    clear hb HR0 HB0 H0
    go_wp2
    go_ret
    exact ⟨by rw [HE.out]; rfl, HB1.out⟩
  | true =>
  cases p1 : activeS s with
  | false =>
    have HE : Hid (rightS s = false) := Lib.hid (by rw [HP.out, p0, p1]; first | done | rfl)
    have H0 : Hid (∀ W, Calls Try.prog 52 #[.agg cs] W fun e w' => e = .returned (.bool true) ∧ Below W.heap.size W w') := Lib.hid (by have h := R0.out; rw [p0] at h; exact h)
    have H1 : Hid (∀ W, Calls Try.prog 53 #[.agg cs] W fun e w' => e = .returned (.bool false) ∧ Below W.heap.size W w') := Lib.hid (by have h := R1.out p0; rw [p1] at h; exact h)
    clear p0 p1 R0 R1 R2 R3 HP
    go_wp2_with (refine wpList_load_any (by rfl) 38 (.tmp 1) rfl w.heap.size rfl 38 cs (0, 0) _ HR0.out Try.underlying38 rfl (by rw [HZC.out]; exact i12) ?_)
    refine (H0.out _).mono ?_
    rintro e W1 ⟨rfl, hb⟩
    have HR1 := Lib.hid (HR0.out.under hb HR0.out.lt)
    have HB1 := Lib.hid (HB0.out.trans (hb.mono HB0.out.size))
    clear hb HR0 HB0 H0
    go_wp2_with (refine wpList_load_any (by rfl) 38 (.tmp 1) rfl w.heap.size rfl 38 cs (0, 0) _ HR1.out Try.underlying38 rfl (by rw [HZC.out]; exact i12) ?_)
    refine (H1.out _).mono ?_
    rintro e W2 ⟨rfl, hb⟩
    have HR2 := Lib.hid (HR1.out.under hb HR1.out.lt)
    have HB2 := Lib.hid (HB1.out.trans (hb.mono HB1.out.size))
    clear hb HR1 HB1 H1
    go_wp2
    go_ret
    exact ⟨by rw [HE.out]; rfl, HB2.out⟩
  | true =>
  cases p2 : otherS s with
  | false =>
    have HE : Hid (rightS s = false) := Lib.hid (by rw [HP.out, p0, p1, p2]; first | done | rfl)
    have H0 : Hid (∀ W, Calls Try.prog 52 #[.agg cs] W fun e w' => e = .returned (.bool true) ∧ Below W.heap.size W w') := Lib.hid (by have h := R0.out; rw [p0] at h; exact h)
    have H1 : Hid (∀ W, Calls Try.prog 53 #[.agg cs] W fun e w' => e = .returned (.bool true) ∧ Below W.heap.size W w') := Lib.hid (by have h := R1.out p0; rw [p1] at h; exact h)
    have H2 : Hid (∀ W, Calls Try.prog 54 #[.agg cs] W fun e w' => e = .returned (.bool false) ∧ Below W.heap.size W w') := Lib.hid (by have h := R2.out p0; rw [p2] at h; exact h)
    clear p0 p1 p2 R0 R1 R2 R3 HP
    go_wp2_with (refine wpList_load_any (by rfl) 38 (.tmp 1) rfl w.heap.size rfl 38 cs (0, 0) _ HR0.out Try.underlying38 rfl (by rw [HZC.out]; exact i12) ?_)
    refine (H0.out _).mono ?_
    rintro e W1 ⟨rfl, hb⟩
    have HR1 := Lib.hid (HR0.out.under hb HR0.out.lt)
    have HB1 := Lib.hid (HB0.out.trans (hb.mono HB0.out.size))
    clear hb HR0 HB0 H0
    go_wp2_with (refine wpList_load_any (by rfl) 38 (.tmp 1) rfl w.heap.size rfl 38 cs (0, 0) _ HR1.out Try.underlying38 rfl (by rw [HZC.out]; exact i12) ?_)
    refine (H1.out _).mono ?_
    rintro e W2 ⟨rfl, hb⟩
    have HR2 := Lib.hid (HR1.out.under hb HR1.out.lt)
    have HB2 := Lib.hid (HB1.out.trans (hb.mono HB1.out.size))
    clear hb HR1 HB1 H1
    go_wp2_with (refine wpList_load_any (by rfl) 38 (.tmp 1) rfl w.heap.size rfl 38 cs (0, 0) _ HR2.out Try.underlying38 rfl (by rw [HZC.out]; exact i12) ?_)
    refine (H2.out _).mono ?_
    rintro e W3 ⟨rfl, hb⟩
    have HR3 := Lib.hid (HR2.out.under hb HR2.out.lt)
    have HB3 := Lib.hid (HB2.out.trans (hb.mono HB2.out.size))
    clear hb HR2 HB2 H2
    go_wp2
    go_ret
    exact ⟨by rw [HE.out]; rfl, HB3.out⟩
  | true =>
  cases p3 : switchS s with
  | false =>
    have HE : Hid (rightS s = false) := Lib.hid (by rw [HP.out, p0, p1, p2, p3]; first | done | rfl)
    have H0 : Hid (∀ W, Calls Try.prog 52 #[.agg cs] W fun e w' => e = .returned (.bool true) ∧ Below W.heap.size W w') := Lib.hid (by have h := R0.out; rw [p0] at h; exact h)
    have H1 : Hid (∀ W, Calls Try.prog 53 #[.agg cs] W fun e w' => e = .returned (.bool true) ∧ Below W.heap.size W w') := Lib.hid (by have h := R1.out p0; rw [p1] at h; exact h)
    have H2 : Hid (∀ W, Calls Try.prog 54 #[.agg cs] W fun e w' => e = .returned (.bool true) ∧ Below W.heap.size W w') := Lib.hid (by have h := R2.out p0; rw [p2] at h; exact h)
    have H3 : Hid (∀ W, Calls Try.prog 55 #[.agg cs] W fun e w' => e = .returned (.bool false) ∧ Below W.heap.size W w') := Lib.hid (by have h := R3.out; rw [p3] at h; exact h)
    clear p0 p1 p2 p3 R0 R1 R2 R3 HP
    go_wp2_with (refine wpList_load_any (by rfl) 38 (.tmp 1) rfl w.heap.size rfl 38 cs (0, 0) _ HR0.out Try.underlying38 rfl (by rw [HZC.out]; exact i12) ?_)
    refine (H0.out _).mono ?_
    rintro e W1 ⟨rfl, hb⟩
    have HR1 := Lib.hid (HR0.out.under hb HR0.out.lt)
    have HB1 := Lib.hid (HB0.out.trans (hb.mono HB0.out.size))
    clear hb HR0 HB0 H0
    go_wp2_with (refine wpList_load_any (by rfl) 38 (.tmp 1) rfl w.heap.size rfl 38 cs (0, 0) _ HR1.out Try.underlying38 rfl (by rw [HZC.out]; exact i12) ?_)
    refine (H1.out _).mono ?_
    rintro e W2 ⟨rfl, hb⟩
    have HR2 := Lib.hid (HR1.out.under hb HR1.out.lt)
    have HB2 := Lib.hid (HB1.out.trans (hb.mono HB1.out.size))
    clear hb HR1 HB1 H1
    go_wp2_with (refine wpList_load_any (by rfl) 38 (.tmp 1) rfl w.heap.size rfl 38 cs (0, 0) _ HR2.out Try.underlying38 rfl (by rw [HZC.out]; exact i12) ?_)
    refine (H2.out _).mono ?_
    rintro e W3 ⟨rfl, hb⟩
    have HR3 := Lib.hid (HR2.out.under hb HR2.out.lt)
    have HB3 := Lib.hid (HB2.out.trans (hb.mono HB2.out.size))
    clear hb HR2 HB2 H2
    go_wp2_with (refine wpList_load_any (by rfl) 38 (.tmp 1) rfl w.heap.size rfl 38 cs (0, 0) _ HR3.out Try.underlying38 rfl (by rw [HZC.out]; exact i12) ?_)
    refine (H3.out _).mono ?_
    rintro e W4 ⟨rfl, hb⟩
    have HR4 := Lib.hid (HR3.out.under hb HR3.out.lt)
    have HB4 := Lib.hid (HB3.out.trans (hb.mono HB3.out.size))
    clear hb HR3 HB3 H3
    go_wp2
    go_ret
    exact ⟨by rw [HE.out]; rfl, HB4.out⟩
  | true =>
  have HE : Hid (rightS s = true) := Lib.hid (by rw [HP.out, p0, p1, p2, p3]; first | done | rfl)
  have H0 : Hid (∀ W, Calls Try.prog 52 #[.agg cs] W fun e w' => e = .returned (.bool true) ∧ Below W.heap.size W w') := Lib.hid (by have h := R0.out; rw [p0] at h; exact h)
  have H1 : Hid (∀ W, Calls Try.prog 53 #[.agg cs] W fun e w' => e = .returned (.bool true) ∧ Below W.heap.size W w') := Lib.hid (by have h := R1.out p0; rw [p1] at h; exact h)
  have H2 : Hid (∀ W, Calls Try.prog 54 #[.agg cs] W fun e w' => e = .returned (.bool true) ∧ Below W.heap.size W w') := Lib.hid (by have h := R2.out p0; rw [p2] at h; exact h)
  have H3 : Hid (∀ W, Calls Try.prog 55 #[.agg cs] W fun e w' => e = .returned (.bool true) ∧ Below W.heap.size W w') := Lib.hid (by have h := R3.out; rw [p3] at h; exact h)
  clear p0 p1 p2 p3 R0 R1 R2 R3 HP
  go_wp2_with (refine wpList_load_any (by rfl) 38 (.tmp 1) rfl w.heap.size rfl 38 cs (0, 0) _ HR0.out Try.underlying38 rfl (by rw [HZC.out]; exact i12) ?_)
  refine (H0.out _).mono ?_
  rintro e W1 ⟨rfl, hb⟩
  have HR1 := Lib.hid (HR0.out.under hb HR0.out.lt)
  have HB1 := Lib.hid (HB0.out.trans (hb.mono HB0.out.size))
  clear hb HR0 HB0 H0
  go_wp2_with (refine wpList_load_any (by rfl) 38 (.tmp 1) rfl w.heap.size rfl 38 cs (0, 0) _ HR1.out Try.underlying38 rfl (by rw [HZC.out]; exact i12) ?_)
  refine (H1.out _).mono ?_
  rintro e W2 ⟨rfl, hb⟩
  have HR2 := Lib.hid (HR1.out.under hb HR1.out.lt)
  have HB2 := Lib.hid (HB1.out.trans (hb.mono HB1.out.size))
  clear hb HR1 HB1 H1
  go_wp2_with (refine wpList_load_any (by rfl) 38 (.tmp 1) rfl w.heap.size rfl 38 cs (0, 0) _ HR2.out Try.underlying38 rfl (by rw [HZC.out]; exact i12) ?_)
  refine (H2.out _).mono ?_
  rintro e W3 ⟨rfl, hb⟩
  have HR3 := Lib.hid (HR2.out.under hb HR2.out.lt)
  have HB3 := Lib.hid (HB2.out.trans (hb.mono HB2.out.size))
  clear hb HR2 HB2 H2
  go_wp2_with (refine wpList_load_any (by rfl) 38 (.tmp 1) rfl w.heap.size rfl 38 cs (0, 0) _ HR3.out Try.underlying38 rfl (by rw [HZC.out]; exact i12) ?_)
  refine (H3.out _).mono ?_
  rintro e W4 ⟨rfl, hb⟩
  have HR4 := Lib.hid (HR3.out.under hb HR3.out.lt)
  have HB4 := Lib.hid (HB3.out.trans (hb.mono HB3.out.size))
  clear hb HR3 HB3 H3
  go_wp2
  go_ret
  exact ⟨by rw [HE.out]; rfl, HB4.out⟩
end Go.Proofs.Ytchaeidmjoelnaa
