/-
  The document's own Put of layer 6.
-/
import Derived.Test.YtooikkjgcpngdaaFrameRef
import Derived.Deep.Cut
namespace Go.Proofs.Ytooikkjgcpngdaa.Fr
open Go.RowKit

/-- So many bytes 0. -/
def zer (n : Nat) : ByteArray := ⟨(List.replicate n (0 : UInt8)).toArray⟩
theorem zer_size (n : Nat) : (zer n).size = n := by simp [zer, ByteArray.size]
theorem zer_data (n : Nat) : (zer n).data.toList = List.replicate n 0 := by simp [zer]
/-- The ten bytes ahead of the sum. -/
def headB (gen seq : Nat) (p : ByteArray) : ByteArray := be 2 p.size ++ be 4 gen ++ be 4 seq
theorem headB_size (gen seq : Nat) (p : ByteArray) : (headB gen seq p).size = 10 := by simp [headB, ByteArray.size_append, be_size]
/-- A sector with a record. -/
def secB (gen seq : Nat) (p : ByteArray) (size : Nat) : ByteArray := headB gen seq p ++ putB (sumV (headB gen seq p ++ p).data.toList) ++ p ++ zer (size - (14 + p.size))

theorem Tinfo5 : (Try.prog.info? 5).map (fun i => (i.zero, i.size, i.bytes)) = some (some (.int .u8 0), 1, 1) := by kernel_rfl
theorem zeros_cells (w : World) (n : Nat) : ∀ j (hj : j < (List.replicate n (0 : UInt8)).length), (w.alloc (.cells (madeCells #[.int .u8 0] n) 5)).cell? ((⟨w.heap.size, 0, none⟩ : Addr).add j) = some (.int .u8 ((List.replicate n (0 : UInt8))[j].toNat : Int)) := by
  intro j hj
  have hadd : (⟨w.heap.size, 0, none⟩ : Addr).add j = ⟨w.heap.size, j, none⟩ := by unfold Addr.add; split <;> simp_all
  have hj' : j < n := by simpa using hj
  have hrow : (w.alloc (.cells (madeCells #[.int .u8 0] n) 5)).heap[w.heap.size]? = some (.cells (madeCells #[.int .u8 0] n) 5 (0, 0)) := heap_alloc_new w _
  rw [hadd, cell_of_row _ _ j _ _ _ hrow, ← Array.getElem?_toList, toList_madeCells_one]
  simp [hj']

set_option maxHeartbeats 2000000 in
theorem fput_ok (gen seq size : Nat) (p : ByteArray) (w : World) (hg : gen ≤ 4294967295) (hq : seq ≤ 4294967295) (h1 : 128 ≤ size) (h2 : size ≤ 1024) (hp : p.size + 14 ≤ size) :
    Calls Try.prog 59 #[.int .i64 (gen : Int), .int .i64 (seq : Int), .string p, .int .i64 (size : Int)] w fun e w' => e = .returned (.tuple #[.string (secB gen seq p size), .int .i64 0]) ∧ Below w.heap.size w w' := by
  have e1 : decide ((size : Int) < 128) = false := by simp; omega
  have e2 : decide (1024 < (size : Int)) = false := by simp; omega
  have e3 : decide ((gen : Int) < 0) = false := by simp
  have e4 : decide (4294967295 < (gen : Int)) = false := by simp; omega
  have e5 : decide ((seq : Int) < 0) = false := by simp
  have e6 : decide (4294967295 < (seq : Int)) = false := by simp; omega
  have e7 : decide ((size : Int) - 14 < (p.size : Int)) = false := by simp; omega
  go_enter Try.func59, Try.ntmps59
  go_wp2_with fail
  refine (bytes_any p.size 2 _ (by omega) (by decide)).mono ?_
  rintro e w1 ⟨rfl, hb⟩
  have HB1 := Lib.hid hb
  clear hb
  go_wp2_with fail
  refine (bytes_any gen 4 _ (by omega) (by decide)).mono ?_
  rintro e w2 ⟨rfl, hb⟩
  have HB2 := Lib.hid (HB1.out.trans (hb.mono HB1.out.size))
  clear hb
  obtain ⟨a, ha⟩ : ∃ a, a = be 2 p.size := ⟨_, rfl⟩
  obtain ⟨b, hb⟩ : ∃ a, a = be 4 gen := ⟨_, rfl⟩
  have has : a.size = 2 := by rw [ha, be_size]
  have hbs : b.size = 4 := by rw [hb, be_size]
  rw [← ha, ← hb]
  have HA := Lib.hid ha
  have HBb := Lib.hid hb
  clear ha hb
  go_wp2_with fail
  refine (bytes_any seq 4 _ (by omega) (by decide)).mono ?_
  rintro e w3 ⟨rfl, hb⟩
  have HB3 := Lib.hid (HB2.out.trans (hb.mono HB2.out.size))
  clear hb
  obtain ⟨c, hc⟩ : ∃ a, a = be 4 seq := ⟨_, rfl⟩
  have hcs : c.size = 4 := by rw [hc, be_size]
  rw [← hc]
  have HC := Lib.hid hc
  clear hc
  have hms : (a ++ b ++ c ++ p).size ≤ maxLen := by simp only [ByteArray.size_append]; unfold maxLen; omega
  go_wp2_with fail
  refine (refSum_any _ _ hms).mono ?_
  rintro e w' ⟨rfl, rfl⟩
  clear hms
  obtain ⟨X, hX⟩ : ∃ X, X = sumV (a ++ b ++ c ++ p).data.toList := ⟨_, rfl⟩
  rw [← hX]
  have HX := Lib.hid hX
  clear hX
  go_wp2_with fail
  refine (refPut_any X _).mono ?_
  rintro e w4 ⟨rfl, hb⟩
  have HB4 := Lib.hid (HB3.out.trans (hb.mono HB3.out.size))
  clear hb
  obtain ⟨u, hu⟩ : ∃ u, u = putB X := ⟨_, rfl⟩
  have hus : u.size = 4 := by rw [hu, putB_size]
  rw [← hu]
  have HU := Lib.hid hu
  clear hu
  go_upto_region 7 with (fail)
  obtain ⟨o, ho⟩ : ∃ o, o = a ++ b ++ c ++ u ++ p := ⟨_, rfl⟩
  obtain ⟨k, hk⟩ : ∃ k, k = 14 + p.size := ⟨_, rfl⟩
  have hos : o.size = k := by rw [ho, hk]; simp only [ByteArray.size_append]; omega
  rw [← ho]
  have hkl : k ≤ size := by omega
  have hmk := run_make_row' (P := Try.prog) 67 5 (.int .u8 0) 1 Try.underlying67 Tinfo5 rfl .i64 .i64 (size - k) (by omega) (by omega) w4
  have hcv := run_convert_bytes_back (P := Try.prog) (w4.alloc (.cells (madeCells #[.int .u8 0] (size - k)) 5)) 67 9 5 ⟨w4.heap.size, 0, none⟩ (size - k) (List.replicate (size - k) (0 : UInt8)) Try.underlying67 Try.underlying5 Try.underlying9 (zeros_cells w4 (size - k))
  rw [List.length_replicate] at hcv
  have en : ((size - k : Nat) : Int) = (size : Int) - (k : Int) := by omega
  rw [en] at hmk
  obtain ⟨z, hz⟩ : ∃ z, z = zer (size - k) := ⟨_, rfl⟩
  have hzs : z.size ≤ 1024 := by rw [hz, zer_size]; omega
  have hcv' : (convert 67 9 (.slice (some ⟨w4.heap.size, 0, none⟩) (size - k) (size - k))).run Try.prog (w4.alloc (.cells (madeCells #[.int .u8 0] (size - k)) 5)) = .ok (.string z) (w4.alloc (.cells (madeCells #[.int .u8 0] (size - k)) 5)) := by rw [hz]; exact hcv
  have HO := Lib.hid ho
  have HK := Lib.hid hk
  have HZ := Lib.hid hz
  clear hcv en ho hk hz has hbs hcs hus
  go_wp2
  go_ret2
  refine ⟨?_, HB4.out.alloc HB4.out.size _⟩
  rw [HO.out, HZ.out, HU.out, HX.out, HK.out, HA.out, HBb.out, HC.out]
  rfl

/-- Is a record out of range? -/
def Out (gen seq size : Int) : Prop := size < 128 ∨ 1024 < size ∨ gen < 0 ∨ 4294967295 < gen ∨ seq < 0 ∨ 4294967295 < seq
set_option maxHeartbeats 2000000 in
theorem fput_range (gen seq size : Int) (p : ByteArray) (w : World) (h : Out gen seq size) :
    Calls Try.prog 59 #[.int .i64 gen, .int .i64 seq, .string p, .int .i64 size] w fun e w' => e = .returned (.tuple #[.string ⟨#[]⟩, .int .i64 1]) ∧ w = w' := by
  unfold Out at h
  by_cases q0 : size < 128
  · have e0 : decide (size < 128) = true := by simpa using q0
    clear h
    go_enter Try.func59, Try.ntmps59
    go_wp2
    go_ret2
    exact ⟨rfl, rfl⟩
  have e0 : decide (size < 128) = false := by simpa using q0
  by_cases q1 : 1024 < size
  · have e1 : decide (1024 < size) = true := by simpa using q1
    clear h
    go_enter Try.func59, Try.ntmps59
    go_wp2
    go_ret2
    exact ⟨rfl, rfl⟩
  have e1 : decide (1024 < size) = false := by simpa using q1
  by_cases q2 : gen < 0
  · have e2 : decide (gen < 0) = true := by simpa using q2
    clear h
    go_enter Try.func59, Try.ntmps59
    go_wp2
    go_ret2
    exact ⟨rfl, rfl⟩
  have e2 : decide (gen < 0) = false := by simpa using q2
  by_cases q3 : 4294967295 < gen
  · have e3 : decide (4294967295 < gen) = true := by simpa using q3
    clear h
    go_enter Try.func59, Try.ntmps59
    go_wp2
    go_ret2
    exact ⟨rfl, rfl⟩
  have e3 : decide (4294967295 < gen) = false := by simpa using q3
  by_cases q4 : seq < 0
  · have e4 : decide (seq < 0) = true := by simpa using q4
    clear h
    go_enter Try.func59, Try.ntmps59
    go_wp2
    go_ret2
    exact ⟨rfl, rfl⟩
  have e4 : decide (seq < 0) = false := by simpa using q4
  have q5 : 4294967295 < seq := by omega
  have e5 : decide (4294967295 < seq) = true := by simpa using q5
  clear h
  go_enter Try.func59, Try.ntmps59
  go_wp2
  go_ret2
  exact ⟨rfl, rfl⟩

set_option maxHeartbeats 1000000 in
theorem fput_long (gen seq size : Nat) (p : ByteArray) (w : World) (_hps : p.size ≤ maxLen) (hg : gen ≤ 4294967295) (hq : seq ≤ 4294967295) (h1 : 128 ≤ size) (h2 : size ≤ 1024) (hp : size < p.size + 14) :
    Calls Try.prog 59 #[.int .i64 (gen : Int), .int .i64 (seq : Int), .string p, .int .i64 (size : Int)] w fun e w' => e = .returned (.tuple #[.string ⟨#[]⟩, .int .i64 5]) ∧ w = w' := by
  unfold maxLen at _hps
  have e1 : decide ((size : Int) < 128) = false := by simp; omega
  have e2 : decide (1024 < (size : Int)) = false := by simp; omega
  have e3 : decide ((gen : Int) < 0) = false := by simp
  have e4 : decide (4294967295 < (gen : Int)) = false := by simp; omega
  have e5 : decide ((seq : Int) < 0) = false := by simp
  have e6 : decide (4294967295 < (seq : Int)) = false := by simp; omega
  have e7 : decide ((size : Int) - 14 < (p.size : Int)) = true := by simp; omega
  go_enter Try.func59, Try.ntmps59
  go_wp2
  go_ret2
  exact ⟨rfl, rfl⟩
end Go.Proofs.Ytooikkjgcpngdaa.Fr
