/-
  The document's own New.
-/
import Derived.Test.YtooikkjgcpngdaaRefB
namespace Go.Proofs.Ytooikkjgcpngdaa
open Go.RowKit

variable {P Q R : Nat → Prop} {w w' : World} {B m g : Nat} {fu : Fu} {size : Nat} {last now : List ByteArray} {lv nv : Value}

/-- No write yet. -/
abbrev Born (w : World) (B : Nat) (R : Nat → Prop) (m g : Nat) (fu : Fu) (size : Nat) (last now : List ByteArray) (lv nv : Value) : Prop := InvR w B R m g fu size last now [] [] lv nv (.slice none 0 0) (.slice none 0 0)

theorem own_keeps {w3 : World} {v v' : Value} {e : TypeId} {n k : Nat} {xs ys : List Value} (h : w.ownsRow B e 1 v n xs) (hg : w.grownBy w3 v'.ownBlock) (hv : w.ownsRow B 9 1 v' k ys) (hne : e ≠ 9 ∨ ∀ x, v'.ownBlock = some x → v.ownBlock ≠ some x) : w3.ownsRow B e 1 v n xs :=
  own_other h fun x hx => by
    obtain ⟨cur, hc⟩ := own_type h hx
    refine hg.block x (lt_of_block hc) fun e' => ?_
    rcases hne with h1 | h1
    · obtain ⟨cur', hc'⟩ := own_type hv e'.symm
      exact ne_of_type hc hc' h1 rfl
    · exact h1 x e'.symm hx
theorem block_keeps {w3 : World} {v' : Value} {t : TypeId} {b k : Nat} {x : Array Value} {ys : List Value} (h : w.heap[b]? = some (.cells x t (0, 0))) (hg : w.grownBy w3 v'.ownBlock) (hv : w.ownsRow B 9 1 v' k ys) (ht : t ≠ 9) : w3.heap[b]? = some (.cells x t (0, 0)) :=
  (hg.block b (lt_of_block h) fun e => by
    obtain ⟨cur, hc⟩ := own_type hv e.symm
    exact ne_of_type h hc ht rfl).trans h

theorem Born.grow1 {w3 : World} (h : Born w B R m g fu size last now lv nv) (hne : ∀ x, lv.ownBlock = some x → nv.ownBlock ≠ some x) (hg : w.grownBy w3 lv.ownBlock) {v : Value} {l : List ByteArray} (hv : w3.ownsRow B 9 1 v l.length (strs l)) (hRQ : ∀ k, R k → Q k) (hp : ∀ k, v.ownBlock = some k → Q k)
    (hQ : ∀ k, Q k → B ≤ k ∧ k < w3.heap.size) : (w3.cell? ⟨m, 1, none⟩ = some lv ∧ w3.frozen? ⟨m, 1, none⟩ = false) ∧ Born (w3.setCell ⟨m, 1, none⟩ v) B Q m g fu size l now v nv := by
  have hm := block_keeps h.hm hg h.ol (by decide)
  obtain ⟨y, hy⟩ := h.hf.type
  have hf := block_keeps hy hg h.ol (by decide)
  have hF : FzR w3 g fu := h.hf.block (hf.trans hy.symm)
  have hon := own_keeps h.on hg h.ol (.inr hne)
  refine ⟨⟨by rw [cell_of_row w3 m 1 _ _ _ hm]; rfl, by simp [World.frozen?, hm]⟩, ?_⟩
  exact ⟨by simp [World.setCell, Array.getElem?_modify, hm], own_set hm hv (by decide), own_set hm hon (by decide), World.ownsRow_nil _ _ _ _, World.ownsRow_nil _ _ _ _, hF.set hm, hRQ _ h.rm, hRQ _ h.rg, hp, fun k hk => hRQ _ (h.rn k hk), fun k hk => (by cases hk), fun k hk => (by cases hk), fun k hk => by simpa [World.setCell] using hQ k hk⟩
theorem Born.grow2 {w3 : World} (h : Born w B R m g fu size last now lv nv) (hne : ∀ x, nv.ownBlock = some x → lv.ownBlock ≠ some x) (hg : w.grownBy w3 nv.ownBlock) {v : Value} {l : List ByteArray} (hv : w3.ownsRow B 9 1 v l.length (strs l)) (hRQ : ∀ k, R k → Q k) (hp : ∀ k, v.ownBlock = some k → Q k)
    (hQ : ∀ k, Q k → B ≤ k ∧ k < w3.heap.size) : (w3.cell? ⟨m, 2, none⟩ = some nv ∧ w3.frozen? ⟨m, 2, none⟩ = false) ∧ Born (w3.setCell ⟨m, 2, none⟩ v) B Q m g fu size last l lv v := by
  have hm := block_keeps h.hm hg h.on (by decide)
  obtain ⟨y, hy⟩ := h.hf.type
  have hf := block_keeps hy hg h.on (by decide)
  have hF : FzR w3 g fu := h.hf.block (hf.trans hy.symm)
  have hol := own_keeps h.ol hg h.on (.inr hne)
  refine ⟨⟨by rw [cell_of_row w3 m 2 _ _ _ hm]; rfl, by simp [World.frozen?, hm]⟩, ?_⟩
  exact ⟨by simp [World.setCell, Array.getElem?_modify, hm], own_set hm hol (by decide), own_set hm hv (by decide), World.ownsRow_nil _ _ _ _, World.ownsRow_nil _ _ _ _, hF.set hm, hRQ _ h.rm, hRQ _ h.rg, fun k hk => hRQ _ (h.rl k hk), hp, fun k hk => (by cases hk), fun k hk => (by cases hk), fun k hk => by simpa [World.setCell] using hQ k hk⟩

theorem Tinfo5 : (Try.prog.info? 5).map (fun i => (i.zero, i.size, i.bytes)) = some (some (.int .u8 0), 1, 1) := by kernel_rfl
theorem zeros_cells (w : World) (n : Nat) : ∀ j (hj : j < (List.replicate n (0 : UInt8)).length), (w.alloc (.cells (madeCells #[.int .u8 0] n) 5)).cell? ((⟨w.heap.size, 0, none⟩ : Addr).add j) = some (.int .u8 ((List.replicate n (0 : UInt8))[j].toNat : Int)) := by
  intro j hj
  have hadd : (⟨w.heap.size, 0, none⟩ : Addr).add j = ⟨w.heap.size, j, none⟩ := by unfold Addr.add; split <;> simp_all
  have hj' : j < n := by simpa using hj
  have hrow : (w.alloc (.cells (madeCells #[.int .u8 0] n) 5)).heap[w.heap.size]? = some (.cells (madeCells #[.int .u8 0] n) 5 (0, 0)) := heap_alloc_new w _
  rw [hadd, cell_of_row _ _ j _ _ _ hrow, ← Array.getElem?_toList, toList_madeCells_one]
  simp [hj']
theorem rep_snoc (z : ByteArray) (j : Nat) : List.replicate (j + 1) z = List.replicate j z ++ [z] := List.replicate_succ'

theorem Born.lg (h : Born w B R m g fu size last now lv nv) {x : Nat} (hx : lv.ownBlock = some x) : x ≠ g := by
  obtain ⟨cur, hc⟩ := own_type h.ol hx
  obtain ⟨y, hy⟩ := h.hf.type
  exact ne_of_type hc hy (by decide)
theorem Born.ng (h : Born w B R m g fu size last now lv nv) {x : Nat} (hx : nv.ownBlock = some x) : x ≠ g := by
  obtain ⟨cur, hc⟩ := own_type h.on hx
  obtain ⟨y, hy⟩ := h.hf.type
  exact ne_of_type hc hy (by decide)
theorem Born.mg (h : Born w B R m g fu size last now lv nv) : m ≠ g := by
  obtain ⟨y, hy⟩ := h.hf.type
  exact ne_of_type h.hm hy (by decide)
/-- What the loop has. -/
def MLoop (w0 w : World) (B m g : Nat) (fu : Fu) (size : Nat) (z : ByteArray) (j : Nat) : Prop := ∃ lv nv, Born w B (grow (fun k => k = g) w0 w) m g fu size (List.replicate j z) (List.replicate j z) lv nv ∧ (∀ x, lv.ownBlock = some x → nv.ownBlock ≠ some x) ∧ Below w0.heap.size w0 w

set_option maxHeartbeats 4000000 in
theorem mnew_any (sz n : Int) (z k : Nat) (hz : (z : Int) = min (max sz 128) 1024) (hk : (k : Int) = min (max n 4) 1024) (hf : FzR w g fu) (hB : B ≤ g) (hBw : B ≤ w.heap.size) :
    Calls Try.prog 12 #[.int .i64 sz, .int .i64 n, .pointer (some ⟨g, 0, none⟩)] w fun e w' => ∃ m lv nv, e = .returned (.pointer (some ⟨m, 0, none⟩)) ∧ Born w' B (grow (fun k => k = g) w w') m g fu z (List.replicate k (same 0 z)) (List.replicate k (same 0 z)) lv nv ∧ Below w.heap.size w w' := by
  obtain ⟨i9, hi9, hz90, hz91, hz92⟩ := info_parts Tinfo9
  have hz1 : z ≤ 1024 := by omega
  have hk1 : k ≤ 1024 := by omega
  have HF := Lib.hid hf
  have HZ := Lib.hid hz
  have HK := Lib.hid hk
  clear hf hz hk
  obtain ⟨m, hm⟩ : ∃ m, m = w.heap.size := ⟨_, rfl⟩
  obtain ⟨w1, hw1⟩ : ∃ w1, w1 = w.alloc (.cells #[.int .i64 (z : Int), .slice none 0 0, .slice none 0 0, .slice none 0 0, .slice none 0 0, .pointer (some ⟨g, 0, none⟩)] 66) := ⟨_, rfl⟩
  have hmk := run_make_row' (P := Try.prog) 67 5 (.int .u8 0) 1 Try.underlying67 Tinfo5 rfl .i64 .i64 z (by omega) (by omega) w1
  have hcv := run_convert_bytes_back (P := Try.prog) (w1.alloc (.cells (madeCells #[.int .u8 0] z) 5)) 67 9 5 ⟨w1.heap.size, 0, none⟩ z (List.replicate z (0 : UInt8)) Try.underlying67 Try.underlying5 Try.underlying9 (zeros_cells w1 z)
  rw [List.length_replicate] at hcv
  have hcv' : (convert 67 9 (.slice (some ⟨w1.heap.size, 0, none⟩) z z)).run Try.prog (w1.alloc (.cells (madeCells #[.int .u8 0] z) 5)) = .ok (.string (same 0 z)) (w1.alloc (.cells (madeCells #[.int .u8 0] z) 5)) := hcv
  have c0 : w1.cell? ⟨m, 0, none⟩ = some (.int .i64 (z : Int)) := by rw [hw1, hm]; simp
  have HBorn : Hid (Born w1 B (grow (fun k => k = g) w w1) m g fu z [] [] (.slice none 0 0) (.slice none 0 0)) := by
    have hgl := HF.out.lt
    refine Lib.hid ⟨?_, World.ownsRow_nil _ _ _ _, World.ownsRow_nil _ _ _ _, World.ownsRow_nil _ _ _ _, World.ownsRow_nil _ _ _ _, ?_, ?_, .inl rfl, fun k hk => (by cases hk), fun k hk => (by cases hk), fun k hk => (by cases hk), fun k hk => (by cases hk), ?_⟩
    · rw [hw1, hm, heap_alloc_new]
    · rw [hw1]
      exact HF.out.block (Below.heap_alloc w _ g hgl)
    · exact .inr ⟨by omega, by rw [hw1, hm]; simp⟩
    · rintro k (rfl | ⟨h1, h2⟩)
      · exact ⟨hB, by rw [hw1]; simp; omega⟩
      · exact ⟨by omega, h2⟩
  have HB1 : Hid (Below w.heap.size w w1) := by rw [hw1]; exact Lib.hid ((Below.refl _ _).alloc (Nat.le_refl _) _)
  clear hcv
  go_enter Try.func12, Try.ntmps12
  go_wp2_with fail
  refine (clamp_nat sz 128 1024 z HZ.out (by decide) _).mono ?_
  rintro e w' ⟨rfl, rfl⟩
  go_upto_region 2 with (fail)
  rw [← hw1, ← hm]
  clear hw1 hm
  obtain ⟨zs, hzs⟩ : ∃ zs, zs = same 0 z := ⟨_, rfl⟩
  rw [← hzs] at hcv'
  have HZS := Lib.hid hzs
  clear hzs
  go_wp2
  have HR : Hid (MLoop w (w1.alloc (.cells (madeCells #[.int .u8 0] z) 5)) B m g fu z zs 0) := by
    refine Lib.hid ⟨_, _, (HBorn.out.alloc _).mono (fun k hk => hk.imp id fun h => ⟨h.1, by have := h.2; simp; omega⟩) ?_, fun x hx => (by cases hx), HB1.out.alloc HB1.out.size _⟩
    rintro k (rfl | ⟨h1, h2⟩)
    · have := HBorn.out.lt k (.inl rfl)
      exact ⟨this.1, by simp; omega⟩
    · exact ⟨by omega, h2⟩
  clear hmk hcv' c0 HBorn HB1
  go_loopg [9] k (fun gg i wr => ∃ j : Nat, Hid (gg = k - j) ∧ j ≤ k ∧ i = .int .i64 j ∧ Hid (MLoop w wr B m g fu z zs j))
  case atStart => exact ⟨0, Lib.hid rfl, Nat.zero_le _, rfl, HR⟩
  case round =>
    obtain ⟨j, HJ, hj, rfl, HR⟩ := hrel
    by_cases hlt : j < k
    · obtain ⟨lv, nv, hb, hne, hbl⟩ := HR.out
      clear HR
      have HI := Lib.hid hb
      have HNE := Lib.hid hne
      have HBL := Lib.hid hbl
      clear hb hne hbl
      obtain ⟨la, lcap, hlv⟩ := own_shape HI.out.ol
      obtain ⟨na, ncap, hnv⟩ := own_shape HI.out.on
      rw [List.length_replicate] at hlv hnv
      have HLV := Lib.hid hlv
      have HNV := Lib.hid hnv
      have c1 := HI.out.c1
      rw [hlv] at c1
      clear hlv hnv
      have HBr : Hid (B ≤ wr.heap.size) := Lib.hid (Nat.le_trans hBw HBL.out.size)
      have hOL : Hid (wr.ownsRow B 9 1 (.slice la j lcap) j (strs (List.replicate j zs))) := Lib.hid (by
        have h := HI.out.ol
        rw [List.length_replicate, HLV.out] at h
        exact h)
      go_wp2_with fail
      refine (clamp_nat n 4 1024 k HK.out (by decide) _).mono ?_
      rintro e w' ⟨rfl, rfl⟩
      go_upto_region 7 with (at_builtin; go_must (refine wpList_append_lies _ rfl (.tmp 31) (.tmp 33) 36 rfl B 9 i9 (.string ⟨#[]⟩) 1 16 Try.underlying36 hi9 hz90 hz91 hz92 rfl (by decide) (.slice la j lcap) j (strs (List.replicate j zs)) rfl (hOL.out.alloc _) ⟨wr.heap.size, 0, none⟩ 1 1 [.string zs] rfl rfl (cell_one_new _ _ _) (by simp [Value.oneCell']) (by decide) (by unfold maxLen; omega) (by omega) (by have := HBr.out; simp; omega) _ rfl ?_); intro g3 cap3 w3 hown3 hgr3 hor3 hlt3; have hown3' : w3.ownsRow B 9 1 (.slice (some ⟨g3, 0, none⟩) (j + 1) cap3) (List.replicate (j + 1) zs).length (strs (List.replicate (j + 1) zs)) := (by rw [List.length_replicate, rep_snoc]; simpa [strs] using hown3); have hsz3 : wr.heap.size + 1 ≤ w3.heap.size := (by have := hgr3.size; simpa using this); have hgg := Born.grow1 (Q := grow (fun k => k = g) w w3) (HI.out.alloc (.cells #[.string zs] 9)) HNE.out (by rw [HLV.out]; exact hgr3) hown3' (fun k hk => hk.imp id fun h => ⟨h.1, by have := h.2; omega⟩) (fun x hx => by obtain rfl : g3 = x := (by simpa [Value.ownBlock] using hx); rcases hor3 with h1 | h1; (exact (HI.out.rl g3 (by rw [HLV.out]; exact h1)).imp id fun h => ⟨h.1, hlt3⟩); (exact .inr ⟨by have := HBL.out.size; simp at h1; omega, hlt3⟩)) (fun x hx => by rcases hx with rfl | ⟨h1, h2⟩; (exact ⟨hB, by have := (HI.out.lt x (.inl rfl)).2; omega⟩); (exact ⟨by omega, h2⟩)); obtain ⟨⟨q1, q2⟩, hb3⟩ := hgg; rw [HLV.out] at q1; have HI3 := Lib.hid hb3; clear hb3)
      have hn3 : ∀ x, (Value.slice (some ⟨g3, 0, none⟩) (j + 1) cap3).ownBlock = some x → nv.ownBlock ≠ some x := by
        intro x hx hn
        obtain rfl : g3 = x := by simpa [Value.ownBlock] using hx
        rcases hor3 with h1 | h1
        · exact HNE.out g3 (by rw [HLV.out]; exact h1) hn
        · have := (HI.out.lt g3 (HI.out.rn g3 hn)).2
          simp at h1
          omega
      have HN3 := Lib.hid hn3
      have HB3 : Hid (Below w.heap.size w w3) := Lib.hid ((HBL.out.alloc HBL.out.size _).grown hgr3 (by have := HBL.out.size; simp; omega) (fun x hx => by
        rcases HI.out.rl x (by rw [HLV.out]; exact hx) with h | h
        · exact absurd h (Born.lg HI.out (by rw [HLV.out]; exact hx))
        · exact h.1))
      have HLT3 := Lib.hid hlt3
      obtain ⟨W3, hW3⟩ : ∃ W3, W3 = w3.setCell ⟨m, 1, none⟩ (.slice (some ⟨g3, 0, none⟩) (j + 1) cap3) := ⟨_, rfl⟩
      have HSW : Hid (W3.heap.size = w3.heap.size) := by rw [hW3]; exact Lib.hid (by simp)
      have HBW : Hid (Below w.heap.size w W3) := by
        rw [hW3]
        refine Lib.hid (HB3.out.setCell ?_ _)
        rcases HI.out.rm with h | h
        · exact absurd h (Born.mg HI.out)
        · exact h.1
      rw [← hW3] at HI3 ⊢
      clear hW3 q1 q2 hown3 hown3' hgr3 hor3 hlt3 hsz3 hn3 hOL c1
      have HOW : Hid (W3.ownsRow B 9 1 (.slice na j ncap) j (strs (List.replicate j zs))) := Lib.hid (by
        have h := HI3.out.on
        rw [List.length_replicate, HNV.out] at h
        exact h)
      have c2 := HI3.out.c2
      rw [HNV.out] at c2
      have HBr3 : Hid (B ≤ W3.heap.size) := Lib.hid (Nat.le_trans hBw HBW.out.size)
      go_wp2_with (at_builtin; go_must (refine wpList_append_lies _ rfl (.tmp 41) (.tmp 43) 36 rfl B 9 i9 (.string ⟨#[]⟩) 1 16 Try.underlying36 hi9 hz90 hz91 hz92 rfl (by decide) (.slice na j ncap) j (strs (List.replicate j zs)) rfl (HOW.out.alloc _) ⟨W3.heap.size, 0, none⟩ 1 1 [.string zs] rfl rfl (cell_one_new _ _ _) (by simp [Value.oneCell']) (by decide) (by unfold maxLen; omega) (by omega) (by have := HBr3.out; simp; omega) _ rfl ?_); intro g4 cap4 w4 hown4 hgr4 hor4 hlt4; have hown4' : w4.ownsRow B 9 1 (.slice (some ⟨g4, 0, none⟩) (j + 1) cap4) (List.replicate (j + 1) zs).length (strs (List.replicate (j + 1) zs)) := (by rw [List.length_replicate, rep_snoc]; simpa [strs] using hown4); have hsz4 : W3.heap.size + 1 ≤ w4.heap.size := (by have := hgr4.size; simpa using this); have hgg := Born.grow2 (Q := grow (fun k => k = g) w w4) (HI3.out.alloc (.cells #[.string zs] 9)) (fun x hx hy => HN3.out x hy hx) (by rw [HNV.out]; exact hgr4) hown4' (fun k hk => hk.imp id fun h => ⟨h.1, by have := h.2; have := HSW.out; omega⟩) (fun x hx => by obtain rfl : g4 = x := (by simpa [Value.ownBlock] using hx); rcases hor4 with h1 | h1; (exact (HI3.out.rn g4 (by rw [HNV.out]; exact h1)).imp id fun h => ⟨h.1, hlt4⟩); (exact .inr ⟨by have := HBW.out.size; simp at h1; omega, hlt4⟩)) (fun x hx => by rcases hx with rfl | ⟨h1, h2⟩; (exact ⟨hB, by have := (HI3.out.lt x (.inl rfl)).2; omega⟩); (exact ⟨by omega, h2⟩)); obtain ⟨⟨q1, q2⟩, hb4⟩ := hgg; rw [HNV.out] at q1; have HI4 := Lib.hid hb4; clear hb4)
      go_roundg (k - (j + 1))
      case measure => have := HJ.out; omega
      case rel =>
        refine ⟨j + 1, Lib.hid rfl, by omega, by go_num, Lib.hid ⟨_, _, HI4.out.mono (fun x hx => hx.imp id fun h => ⟨h.1, by simpa [World.setCell] using h.2⟩) ?_, ?_, ?_⟩⟩
        · rintro x (rfl | ⟨h1, h2⟩)
          · exact HI4.out.lt x (.inl rfl)
          · exact ⟨by omega, h2⟩
        · intro x hx hn
          obtain rfl : g4 = x := by simpa [Value.ownBlock] using hn
          obtain rfl : g3 = g4 := by simpa [Value.ownBlock] using hx
          rcases hor4 with h1 | h1
          · exact HN3.out g3 rfl (by rw [HNV.out]; exact h1)
          · have := HLT3.out
            have := HSW.out
            simp at h1
            omega
        · refine ((HBW.out.alloc HBW.out.size _).grown hgr4 (by have := HBW.out.size; simp; omega) (fun x hx => ?_)).setCell ?_ _
          · rcases HI3.out.rn x (by rw [HNV.out]; exact hx) with h | h
            · exact absurd h (Born.ng HI3.out (by rw [HNV.out]; exact hx))
            · exact h.1
          · rcases HI.out.rm with h | h
            · exact absurd h (Born.mg HI.out)
            · exact h.1
    · obtain rfl : j = k := by omega
      obtain ⟨lv, nv, hb, hne, hbl⟩ := HR.out
      clear HR
      go_wp2_with fail
      refine (clamp_nat n 4 1024 j HK.out (by decide) _).mono ?_
      rintro e w' ⟨rfl, rfl⟩
      go_wp2
      go_ret
      rw [HZS.out] at hb
      exact ⟨m, lv, nv, rfl, hb, hbl⟩
end Go.Proofs.Ytooikkjgcpngdaa
