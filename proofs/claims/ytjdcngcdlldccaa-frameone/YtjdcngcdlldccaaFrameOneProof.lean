/-
  switchback's FrameOne: a sector's record that is got is put as that sector. For every input the call returns true, and each argument reads afterwards as it read before. No condition.
-/
import Derived.Test.YtjdcngcdlldccaaLift
namespace Go.Proofs.Ytjdcngcdlldccaa.frameOne
open Go.ChangeShapes Go.WideShapes Go.ChangeAt Go.RowKit

set_option maxHeartbeats 1000000 in
theorem walk_long (s : ByteArray) (w : World) (hs : s.size ≤ maxLen) (h : 2000 < s.size) : Calls Try.prog 6 #[.string s] w (Holds w) := by
  unfold maxLen at hs
  have e1 : decide (2000 < (s.size : Int)) = true := by simp; omega
  go_enter Try.func6, Try.ntmps6
  go_wp2_with fail
  refine (awake_yes _).mono ?_
  rintro e w1 ⟨rfl, hb1⟩
  go_wp2_with fail
  refine (awake_yes _).mono ?_
  rintro e w2 ⟨rfl, hb2⟩
  go_wp2
  go_ret
  exact ⟨rfl, hb1.trans (hb2.mono hb1.size)⟩

set_option maxHeartbeats 1000000 in
theorem walk_main (s : ByteArray) (w : World) (h : s.size ≤ 2000) : Calls Try.prog 6 #[.string s] w (Holds w) := by
  have e1 : decide (2000 < (s.size : Int)) = false := by simp; omega
  have HG : Hid (∀ W, Calls Try.prog 13 #[.string s] W fun e w' => Got s e ∧ Below W.heap.size W w') := Lib.hid (fun W => get_any s W (by unfold maxLen; omega))
  by_cases hr : Rec s
  · obtain ⟨n5, hn5⟩ : ∃ x, x = valL (s.extract 2 6).data.toList := ⟨_, rfl⟩
    obtain ⟨n6, hn6⟩ : ∃ x, x = valL (s.extract 6 10).data.toList := ⟨_, rfl⟩
    obtain ⟨t, ht⟩ : ∃ t, t = s.extract 14 (14 + lenV s) := ⟨_, rfl⟩
    have hE : ∀ e, Got s e → e = .returned (.tuple #[.int .i64 (n5 : Int), .int .i64 (n6 : Int), .string t, .bool true]) := by
      intro e he
      rcases he with ⟨_, he⟩ | ⟨hn, _⟩
      · rw [he, hn5, hn6, ht]; rfl
      · exact absurd hr hn
    have HE := Lib.hid hE
    have hts : t.size + 14 ≤ s.size := by
      have := hr.2.2.1
      rw [ht, ← len_data', ext_data, List.length_take, List.length_drop, len_data']
      omega
    have b5 : n5 < 4294967296 := by rw [hn5]; exact val_word s 2
    have b6 : n6 < 4294967296 := by rw [hn6]; exact val_word s 6
    have HP : Hid (∀ W, Calls Try.prog 9 #[.int .i64 (n5 : Int), .int .i64 (n6 : Int), .string t, .int .i64 (s.size : Int)] W fun e w' => e = .returned (.tuple #[.string s, .int .i64 0]) ∧ Below W.heap.size W w') := Lib.hid (by
      intro W
      have hc := put_ok n5 n6 s.size t W (by omega) (by omega) hr.1 hr.2.1 hts
      have e : secB n5 n6 t s.size = s := by rw [hn5, hn6, ht]; exact rec_sec s hr
      rw [e] at hc
      exact hc)
    clear hE hn5 hn6 ht hr
    go_enter Try.func6, Try.ntmps6
    go_wp2_with fail
    refine (awake_yes _).mono ?_
    rintro e w1 ⟨rfl, hb⟩
    have HB1 := Lib.hid hb
    clear hb
    go_wp2_with fail
    refine (HG.out _).mono ?_
    rintro e w2 ⟨he, hb⟩
    obtain rfl := HE.out _ he
    have HB2 := Lib.hid (HB1.out.trans (hb.mono HB1.out.size))
    clear hb he
    go_wp2_with fail
    refine (HP.out _).mono ?_
    rintro e w3 ⟨rfl, hb⟩
    have HB3 := Lib.hid (HB2.out.trans (hb.mono HB2.out.size))
    clear hb
    go_wp2
    go_ret
    exact ⟨rfl, HB3.out⟩
  · have hE : ∀ e, Got s e → e = .returned (.tuple #[.int .i64 0, .int .i64 0, .string ⟨#[]⟩, .bool false]) := by
      intro e he
      rcases he with ⟨hn, _⟩ | ⟨_, he⟩
      · exact absurd hn hr
      · exact he
    have HE := Lib.hid hE
    clear hE hr
    go_enter Try.func6, Try.ntmps6
    go_wp2_with fail
    refine (awake_yes _).mono ?_
    rintro e w1 ⟨rfl, hb⟩
    have HB1 := Lib.hid hb
    clear hb
    go_wp2_with fail
    refine (HG.out _).mono ?_
    rintro e w2 ⟨he, hb⟩
    obtain rfl := HE.out _ he
    have HB2 := Lib.hid (HB1.out.trans (hb.mono HB1.out.size))
    clear hb he
    go_wp2
    go_ret
    exact ⟨rfl, HB2.out⟩

theorem walk (s : ByteArray) (w : World) (hs : s.size ≤ maxLen) : Calls Try.prog 6 #[.string s] w (Holds w) := by
  by_cases h : 2000 < s.size
  · exact walk_long s w hs h
  · exact walk_main s w (by omega)

/-! From the walk to the given row. -/
set_option maxRecDepth 100000 in
theorem lifted (os : Os) (started : os.Started) (H : Type) (enc : TypeId × Value → H) :
    ReturnsInHanded {} Try.checked os 6 .any (Rows.frameOneSpec.pre6 enc Try.prog Try.f6 Rows.frameOneRow.domain false) (Rows.frameOneSpec.post enc Try.prog Try.f6 false true false false) := by
  refine returnsInHanded_of_change (C := Try.checked) t_own started (by kernel_rfl) Try.func6
    (ChangeSpec.witness6 (enc := enc) (C := Try.checked) false ⟨#[], #[.string ⟨#[]⟩], []⟩ 8 (by kernel_rfl) (by kernel_rfl) (by kernel_rfl) (by kernel_rfl)) ?_
  intro W base args ds gs before hval0 hW hcnd _
  have hval : ∀ (j : Nat) t v, Try.f6.params[j]? = some t → args[j]? = some v → Value.okWide Try.prog W .any base t v := hval0
  have hW' := hW
  obtain ⟨p, q, hA0, hV, rfl, hfz, hnd⟩ := hW
  have hA : DataW.TrodAll enc Try.prog W 0 (fun _ => true) true Try.f6.params.toList args.toList ds p := hA0
  rw [Try.params6] at hA hval
  obtain ⟨v0, vs0, d0, ds0, p0, q0, hargs, rfl, rfl, h0, r0⟩ := trodAll_cons hA
  obtain ⟨rfl, rfl, rfl⟩ := trodAll_nil r0
  obtain rfl : args = #[v0] := by cases args; simp_all
  obtain ⟨s, rfl, rfl, rfl, hs⟩ := Go.ChangeMaps.open_string Try.underlying9 (hval 0 9 v0 rfl rfl) h0
  refine (walk s W hs).mono fun e W' ⟨he, hb⟩ => ?_
  subst he
  exact ⟨_, rfl, post_of_holds hW' (by kernel_rfl) rfl (by rw [Try.params6]; exact fun t ht => params_ok t (by simp at ht; rcases ht with rfl <;> simp)) ⟨rfl, rfl, rfl⟩ hb⟩

/-- The given statement. -/
theorem proved : Rows.FrameOneSaid :=
  OpenClaim.holds_of_wide 6 Try.f6 rfl rfl rfl rfl rfl rfl rfl ⟨rfl, rfl, rfl, rfl, rfl⟩ rfl rfl rfl rfl rfl (by kernel_rfl) Try.func6 (by kernel_rfl)
    (of_decide_eq_true (by kernel_rfl)) (by unfold Func.isWrapper; first | (rw [if_pos (by decide +kernel)]; kernel_rfl) | (rw [if_neg (by decide +kernel)]; exact ⟨rfl, rfl⟩))
    (fun os started H enc _ => lifted os started H enc)
#print axioms proved
end Go.Proofs.Ytjdcngcdlldccaa.frameOne
