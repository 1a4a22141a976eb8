/-
  The law package's own awake: it answers true.
-/
import Derived.Test.YtjdcngcdlldccaaFrameC
namespace Go.Proofs.Ytjdcngcdlldccaa
open Go.RowKit

theorem get_any (s : ByteArray) (w : World) (hs : s.size ≤ maxLen) : Calls Try.prog 13 #[.string s] w fun e w' => Got s e ∧ Below w.heap.size w w' := by
  by_cases h : s.size < 128 ∨ 1024 < s.size
  · exact get_size s w hs h
  · exact get_in s w (by omega) (by omega)
theorem fget_any (s : ByteArray) (w : World) (hs : s.size ≤ maxLen) : Calls Try.prog 14 #[.string s] w fun e w' => Got s e ∧ Below w.heap.size w w' := by
  by_cases h : s.size < 128 ∨ 1024 < s.size
  · exact fget_size s w hs h
  · exact fget_in s w (by omega) (by omega)
/-- What is put is got. -/
theorem get_sec (gen seq size : Nat) (p : ByteArray) (w : World) (hg : gen ≤ 4294967295) (hq : seq ≤ 4294967295) (h1 : 128 ≤ size) (h2 : size ≤ 1024) (hp : p.size + 14 ≤ size) :
    Calls Try.prog 13 #[.string (secB gen seq p size)] w fun e w' => e = .returned (.tuple #[.int .i64 (gen : Int), .int .i64 (seq : Int), .string p, .bool true]) ∧ Below w.heap.size w w' := by
  obtain ⟨hr, h4⟩ := sec_rec gen seq p size h1 h2 hp (by omega) (by omega)
  refine (get_in _ w hr.1 hr.2.1).mono ?_
  rintro e w' ⟨hG, hb⟩
  rcases hG with ⟨_, he⟩ | ⟨hn, _⟩
  · exact ⟨by rw [he, h4], hb⟩
  · exact absurd hr hn

def abB : ByteArray := ⟨#[97, 98]⟩
def tenB : ByteArray := ⟨#[0, 2, 0, 0, 0, 1, 0, 0, 0, 2]⟩
theorem zer_not : ¬ Rec (zer 128) := by
  intro h
  have h1 := rec_sec _ h
  have e1 : (zer 128).size = 128 := zer_size 128
  have e2 : lenV (zer 128) = 0 := by unfold lenV; rw [ext_data, zer_data]; decide
  have e3 : (zer 128).extract 10 14 = zer 4 := by apply data_inj; rw [ext_data, zer_data, zer_data]; decide
  have e4 : (zer 128).extract 0 10 ++ (zer 128).extract 14 (14 + 0) = zer 10 := by apply data_inj; rw [Go.Joins.data_append, ext_data, ext_data, zer_data, zer_data]; decide
  have h5 := h.2.2.2.2
  unfold sumOk at h5
  rw [e2, e3, e4, zer_data] at h5
  have h6 : zer 4 = putB 0#32 := by apply data_inj; rw [zer_data, putB_data]; decide
  rw [h6] at h5
  have h7 := put_inj h5
  revert h7
  decide +kernel
theorem get_noughts (w : World) : Calls Try.prog 13 #[.string (zer 128)] w fun e w' => e = .returned none4 ∧ Below w.heap.size w w' := by
  refine (get_in _ w (by rw [zer_size]; decide) (by rw [zer_size]; decide)).mono ?_
  rintro e w' ⟨hG, hb⟩
  rcases hG with ⟨hr, _⟩ | ⟨_, he⟩
  · exact absurd hr zer_not
  · exact ⟨he, hb⟩

set_option maxHeartbeats 1000000 in
theorem awake_yes (w : World) : Calls Try.prog 8 #[] w fun e w' => e = .returned (.bool true) ∧ Below w.heap.size w w' := by
  obtain ⟨b, hb0⟩ : ∃ b, b = secB 1 2 abB 128 := ⟨_, rfl⟩
  have hbs : b.size = 128 := by rw [hb0]; exact sec_size 1 2 abB 128 (by decide)
  have hten : b.extract 0 10 = tenB := by
    rw [hb0, (sec_parts 1 2 abB 128 (by decide) (by decide) (by decide)).2.2.2.2.2.1]
    apply data_inj
    rw [head_data]
    decide
  have HP : Hid (∀ W, Calls Try.prog 9 #[.int .i64 1, .int .i64 2, .string abB, .int .i64 128] W fun e w' => e = .returned (.tuple #[.string b, .int .i64 0]) ∧ Below W.heap.size W w') := Lib.hid (fun W => by
    rw [hb0]; exact put_ok 1 2 128 abB W (by decide) (by decide) (by decide) (by decide) (by decide))
  have HG : Hid (∀ W, Calls Try.prog 13 #[.string b] W fun e w' => e = .returned (.tuple #[.int .i64 1, .int .i64 2, .string abB, .bool true]) ∧ Below W.heap.size W w') := Lib.hid (fun W => by
    rw [hb0]; exact get_sec 1 2 128 abB W (by decide) (by decide) (by decide) (by decide) (by decide))
  obtain ⟨q, hq⟩ : ∃ q : ByteArray, q = ⟨(List.replicate 115 (97 : UInt8)).toArray⟩ := ⟨_, rfl⟩
  have hqs : q.size = 115 := by rw [hq]; rfl
  have HL : Hid (∀ W, Calls Try.prog 9 #[.int .i64 1, .int .i64 2, .string q, .int .i64 128] W fun e w' => e = .returned (.tuple #[.string ⟨#[]⟩, .int .i64 5]) ∧ W = w') := Lib.hid (fun W => put_long 1 2 128 q W (by rw [hqs]; decide) (by decide) (by decide) (by decide) (by decide) (by omega))
  have HQ := Lib.hid hq
  clear hb0 hq
  go_enter Try.func8, Try.ntmps8
  go_wp2_with fail
  refine (HP.out _).mono ?_
  rintro e w1 ⟨rfl, hb⟩
  have HB1 := Lib.hid hb
  clear hb
  go_wp2_with fail
  refine (HG.out _).mono ?_
  rintro e w2 ⟨rfl, hb⟩
  have HB2 := Lib.hid (HB1.out.trans (hb.mono HB1.out.size))
  clear hb
  go_wp2_with fail
  refine (repeat_any 0 128 _ (by decide)).mono ?_
  rintro e w3 ⟨rfl, hb⟩
  have HB3 := Lib.hid (HB2.out.trans (hb.mono HB2.out.size))
  clear hb
  obtain ⟨z, hz⟩ : ∃ z, z = zer 128 := ⟨_, rfl⟩
  have HZ : Hid (∀ W, Calls Try.prog 13 #[.string z] W fun e w' => e = .returned none4 ∧ Below W.heap.size W w') := Lib.hid (fun W => by rw [hz]; exact get_noughts W)
  have hz' : (⟨(List.replicate 128 (0 : UInt8)).toArray⟩ : ByteArray) = z := hz.symm
  rw [hz']
  clear hz hz'
  go_wp2_with fail
  refine (HZ.out _).mono ?_
  rintro e w4 ⟨rfl, hb⟩
  have HB4 := Lib.hid (HB3.out.trans (hb.mono HB3.out.size))
  clear hb
  unfold none4
  go_wp2_with fail
  refine (repeat_any 97 115 _ (by decide)).mono ?_
  rintro e w5 ⟨rfl, hb⟩
  have HB5 := Lib.hid (HB4.out.trans (hb.mono HB4.out.size))
  clear hb
  rw [← HQ.out]
  go_wp2_with fail
  refine (HL.out _).mono ?_
  rintro e w' ⟨rfl, rfl⟩
  have t1 : tenB.toList = [0, 2, 0, 0, 0, 1, 0, 0, 0, 2] := by rw [ByteArray.toList_eq]; rfl
  have t2 : abB.toList = [97, 98] := by rw [ByteArray.toList_eq]; rfl
  go_wp2_with fail
  refine (froom_in 128 _ (by decide) (by decide)).mono ?_
  rintro e w' ⟨rfl, rfl⟩
  go_wp2
  go_ret
  exact ⟨rfl, HB5.out⟩
end Go.Proofs.Ytjdcngcdlldccaa
