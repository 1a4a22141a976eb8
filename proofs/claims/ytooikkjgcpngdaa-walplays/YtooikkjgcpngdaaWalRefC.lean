/-
  The document's own log: Room, Append.
-/
import Derived.Test.YtooikkjgcpngdaaWalRefB
import Derived.Deep.AppendLies
namespace Go.Proofs.Ytooikkjgcpngdaa
open Go.RowKit
open Fr (Rec secB valL lenV)

variable {P Q R V : Nat → Prop} {w w' : World} {B m g v : Nat} {fu : Fu} {s : Dk} {l : Lg} {lv : Value}

theorem InvV.grown {w3 : World} {row : Option Nat} (h : InvV w B V v m l lv) (hg : w.grownBy w3 row) (hr : ∀ k, row = some k → ¬ V k) : InvV w3 B V v m l lv :=
  h.stays hg.size fun k hk => hg.block k (h.lt k hk).2 fun e => hr k e.symm hk
theorem DskR.grown {w3 : World} {row : Option Nat} (h : DskR w B R m g s fu) (hg : w.grownBy w3 row) (hr : ∀ k, row = some k → ¬ R k) : DskR w3 B R m g s fu :=
  h.stays hg.size fun k hk => hg.block k (h.lt k hk).2 fun e => hr k e.symm hk
theorem InvV.shape (h : InvV w B V v m l lv) : ∃ a c, w.cell? ⟨v, 3, none⟩ = some (.slice a l.list.length c) ∧ lv = .slice a l.list.length c := by
  obtain ⟨a, c, e⟩ := own_shape h.ol
  exact ⟨a, c, by rw [h.c3, e], e⟩

set_option maxHeartbeats 1000000 in
theorem mroom_any (h : DskR w B R m g s fu) (hV : InvV w B V v m l lv) (hlen : l.list.length ≤ 512) : Calls Try.prog 25 #[.pointer (some ⟨v, 0, none⟩)] w fun e w' => e = .returned (.int .i64 ((s.half : Int) - 1 - (l.list.length : Int))) ∧ Alike w' w := by
  have hn1 := h.good.n1
  have c0 := hV.c0
  obtain ⟨la, lc, c3, _⟩ := hV.shape
  obtain ⟨av, cap, d2⟩ := h.c2
  obtain ⟨n, hn⟩ : ∃ n, n = s.now.length := ⟨_, rfl⟩
  obtain ⟨hf, hhf⟩ : ∃ hf, hf = s.half := ⟨_, rfl⟩
  have eh : IntKind.i64.wrap ((n : Int) / 2) = (hf : Int) := by
    have e : (n : Int) / 2 = (hf : Int) := by rw [hhf, hn]; unfold Dk.half; omega
    rw [e]; exact IntWalk.i64_in _ (by unfold Dk.half at hhf; omega)
  have hf5 : hf ≤ 512 := by unfold Dk.half at hhf; omega
  rw [← hn] at d2 hn1
  rw [← hhf]
  obtain ⟨L, hL⟩ : ∃ L, L = l.list.length := ⟨_, rfl⟩
  rw [← hL] at c3 hlen ⊢
  clear hn hhf h hV hL
  go_enter Try.func25, Try.ntmps25
  go_wp2
  go_quiet (fail)
  go_wp2
  go_ret
  exact ⟨rfl, rfl, rfl, rfl, rfl⟩

set_option maxHeartbeats 400000 in
theorem mapp_broken (t : ByteArray) (hV : InvV w B V v m l lv) (hb : l.broken = true) : Calls Try.prog 16 #[.pointer (some ⟨v, 0, none⟩), .string t] w fun e w' => e = .returned (.int .i64 2) ∧ w = w' := by
  have c4 := hV.c4
  rw [hb] at c4
  clear hV hb
  go_enter Try.func16, Try.ntmps16
  go_wp2
  go_ret
  exact ⟨rfl, rfl⟩
theorem mroom_in (n : Nat) (w : World) (h1 : 128 ≤ n) (h2 : n ≤ 1024) : Calls Try.prog 43 #[.int .i64 (n : Int)] w fun e w' => e = .returned (.int .i64 ((n : Int) - 14)) ∧ w = w' := by
  have h := Fr.room_any (n : Int) w (by omega) (by omega)
  rw [if_neg (by omega)] at h
  exact h
set_option maxHeartbeats 1000000 in
theorem mapp_long (t : ByteArray) (_hts : t.size ≤ maxLen) (h : DskR w B R m g s fu) (hV : InvV w B V v m l lv) (hb : l.broken = false) (hbig : s.Big) (hl : s.size < t.size + 14) : Calls Try.prog 16 #[.pointer (some ⟨v, 0, none⟩), .string t] w fun e w' => e = .returned (.int .i64 5) ∧ w = w' := by
  unfold maxLen at _hts
  have c4 := hV.c4
  rw [hb] at c4
  have c0 := hV.c0
  have d0 := h.c0
  have hsz := h.good.sz
  have hb1 := hbig.size
  obtain ⟨sz, hsz'⟩ : ∃ sz, sz = s.size := ⟨_, rfl⟩
  rw [← hsz'] at d0 hsz hb1 hl
  have e7 : decide ((sz : Int) - 14 < (t.size : Int)) = true := by simp; omega
  clear hsz' h hV hb hbig
  go_enter Try.func16, Try.ntmps16
  go_wp2_with fail
  refine (mroom_in sz _ hb1 hsz).mono ?_
  rintro e w' ⟨rfl, rfl⟩
  go_wp2
  go_ret
  exact ⟨rfl, rfl⟩
set_option maxHeartbeats 1000000 in
theorem mapp_full (t : ByteArray) (h : DskR w B R m g s fu) (hV : InvV w B V v m l lv) (hb : l.broken = false) (hbig : s.Big) (hl : t.size + 14 ≤ s.size) (hlen : l.list.length ≤ 512) (hf : s.half ≤ l.list.length + 1) : Calls Try.prog 16 #[.pointer (some ⟨v, 0, none⟩), .string t] w fun e w' => e = .returned (.int .i64 3) ∧ Alike w' w := by
  have c4 := hV.c4
  rw [hb] at c4
  have c0 := hV.c0
  have d0 := h.c0
  have hsz := h.good.sz
  have hb1 := hbig.size
  obtain ⟨sz, hsz'⟩ : ∃ sz, sz = s.size := ⟨_, rfl⟩
  rw [← hsz'] at d0 hsz hb1 hl
  have e7 : decide ((sz : Int) - 14 < (t.size : Int)) = false := by simp; omega
  have HR := Lib.hid (mroom_any h hV hlen)
  obtain ⟨r, hr⟩ : ∃ r : Int, r = (s.half : Int) - 1 - (l.list.length : Int) := ⟨_, rfl⟩
  rw [← hr] at HR
  have e8 : decide (r ≤ 0) = true := by simp; omega
  clear hsz' h hV hb hbig hr hlen hf
  go_enter Try.func16, Try.ntmps16
  go_wp2_with fail
  refine (mroom_in sz _ hb1 hsz).mono ?_
  rintro e w' ⟨rfl, rfl⟩
  go_wp2_with fail
  refine HR.out.mono ?_
  rintro e w1 ⟨rfl, ha1⟩
  go_wp2
  go_ret
  exact ⟨rfl, ha1⟩

theorem lay_here {wd : World} (hd : Alike wd w) (area gen seq i : Nat) (t : ByteArray) (hD : DskR w B R m g s fu) (hV : InvV w B V v m l lv) (hdis : ∀ k, R k → ¬ V k) (hbig : s.Big) (hgen : gen < 4294967296) (hseq : seq < 1024) (ht : t.size + 14 ≤ s.size) (ha : area ≤ 1) (hi : i = area * s.half + seq) (hil : i < s.now.length) (hc : fu.count < 900000) (hl : s.opn.length < 900000) (hBw : B ≤ w.heap.size) :
    Calls Try.prog 40 #[.pointer (some ⟨v, 0, none⟩), .int .i64 (area : Int), .int .i64 (gen : Int), .int .i64 (seq : Int), .string t] wd fun e w' => e = .returned (.bool (layOk fu)) ∧
      ∃ R', Hid (DskR w' B R' m g (layS s fu i (secB gen seq t s.size)) (layF fu) ∧ InvV w' B V v m { l with broken := if layOk fu then l.broken else true } lv ∧ (∀ k, R' k → R k ∨ w.heap.size ≤ k) ∧ Kept (fun k => R k ∨ V k) w w') := by
  refine (lay_any area gen seq i t (hD.alike hd) (hV.alike hd) hdis hbig hgen hseq ht ha hi hil hc hl (by rw [hd.2.2.2]; exact hBw)).mono ?_
  rintro e w' ⟨rfl, R', h1, h2, h3, h4⟩
  exact ⟨rfl, R', Lib.hid ⟨h1, h2, fun k hk => by rw [← hd.2.2.2]; exact h3 k hk, h4.alike hd⟩⟩

set_option maxHeartbeats 2000000 in
theorem mapp_no (t : ByteArray) (h : DskR w B R m g s fu) (hV : InvV w B V v m l lv) (hdis : ∀ k, R k → ¬ V k) (hb : l.broken = false) (hbig : s.Big) (hl : t.size + 14 ≤ s.size) (hf : l.list.length + 1 < s.half) (ha : l.area ≤ 1) (hgen : l.gen < 4294967296) (hc : fu.count < 900000) (hln : s.opn.length < 900000) (hBw : B ≤ w.heap.size) (hok : layOk fu = false) :
    Calls Try.prog 16 #[.pointer (some ⟨v, 0, none⟩), .string t] w fun e w' => e = .returned (.int .i64 2) ∧ ∃ R', DskR w' B R' m g (layS s fu (l.area * s.half + (l.list.length + 1)) (secB l.gen (l.list.length + 1) t s.size)) (layF fu) ∧ InvV w' B V v m { l with broken := true } lv ∧ (∀ k, R' k → R k ∨ w.heap.size ≤ k) ∧ Kept (fun k => R k ∨ V k) w w' := by
  have hn1 := h.good.n1
  have hf5 : s.half ≤ 512 := by unfold Dk.half; omega
  have h2h : 2 * s.half ≤ s.now.length := by unfold Dk.half; omega
  have hah : l.area * s.half ≤ s.half := by rcases (by omega : l.area = 0 ∨ l.area = 1) with e | e <;> rw [e] <;> omega
  have c4 := hV.c4
  rw [hb] at c4
  have c0 := hV.c0
  have c1 := hV.c1
  have c2 := hV.c2
  obtain ⟨la, lc, c3, hlv⟩ := hV.shape
  have d0 := h.c0
  have hsz := h.good.sz
  have hb1 := hbig.size
  have HR := Lib.hid (mroom_any h hV (by omega))
  obtain ⟨L1, hL1⟩ : ∃ L1, L1 = l.list.length + 1 := ⟨_, rfl⟩
  obtain ⟨A, hA⟩ : ∃ A, A = l.area := ⟨_, rfl⟩
  obtain ⟨G, hG⟩ : ∃ G, G = l.gen := ⟨_, rfl⟩
  have HL : Hid (∀ wd, Alike wd w → Calls Try.prog 40 #[.pointer (some ⟨v, 0, none⟩), .int .i64 (A : Int), .int .i64 (G : Int), .int .i64 (L1 : Int), .string t] wd fun e w' => e = .returned (.bool false) ∧
      ∃ R', Hid (DskR w' B R' m g (layS s fu (l.area * s.half + (l.list.length + 1)) (secB l.gen (l.list.length + 1) t s.size)) (layF fu) ∧ InvV w' B V v m { l with broken := true } lv ∧ (∀ k, R' k → R k ∨ w.heap.size ≤ k) ∧ Kept (fun k => R k ∨ V k) w w')) := Lib.hid (fun wd hd => by
    rw [hL1, hA, hG]
    have hh := lay_here hd l.area l.gen (l.list.length + 1) _ t h hV hdis hbig hgen (by omega) hl ha rfl (by omega) hc hln hBw
    rw [hok] at hh
    exact hh)
  obtain ⟨S', hS'⟩ : ∃ S', S' = layS s fu (l.area * s.half + (l.list.length + 1)) (secB l.gen (l.list.length + 1) t s.size) := ⟨_, rfl⟩
  rw [← hS'] at HL ⊢
  obtain ⟨sz, hsz'⟩ : ∃ sz, sz = s.size := ⟨_, rfl⟩
  rw [← hsz'] at d0 hsz hb1 hl
  have e7 : decide ((sz : Int) - 14 < (t.size : Int)) = false := by simp; omega
  obtain ⟨r, hr⟩ : ∃ r : Int, r = (s.half : Int) - 1 - (l.list.length : Int) := ⟨_, rfl⟩
  rw [← hr] at HR
  have e8 : decide (r ≤ 0) = false := by simp; omega
  obtain ⟨L, hL⟩ : ∃ L, L = l.list.length := ⟨_, rfl⟩
  rw [← hL] at c3 hf
  rw [← hA] at c1
  rw [← hG] at c2
  have eL : (L : Int) + 1 = (L1 : Int) := by omega
  have eW : IntKind.i64.wrap (L1 : Int) = (L1 : Int) := IntWalk.i64_in _ (by omega)
  have hL5 : L ≤ 512 := by omega
  have HLE := Lib.hid hL
  have HAE := Lib.hid hA
  have HGE := Lib.hid hG
  have HLV := Lib.hid hlv
  have HV := Lib.hid hV
  have HDIS := Lib.hid hdis
  have HD := Lib.hid h
  have HBW := Lib.hid hBw
  clear hL1 hsz' h hV hb hbig hr hf hL hA hG ha hah hgen hlv hn1 hf5 h2h hc hln hok hdis hS' hBw
  go_enter Try.func16, Try.ntmps16
  go_wp2_with fail
  refine (mroom_in sz _ hb1 hsz).mono ?_
  rintro e w' ⟨rfl, rfl⟩
  go_wp2_with fail
  refine HR.out.mono ?_
  rintro e w1 ⟨rfl, ha1⟩
  have HA1 := Lib.hid ha1
  have HV1 := Lib.hid (HV.out.alike ha1)
  have hL2 : ∀ wd, Alike wd w1 → Alike wd w := fun wd hd => ⟨hd.1.trans ha1.1, hd.2.1.trans ha1.2.1, hd.2.2.1.trans ha1.2.2.1, hd.2.2.2.trans ha1.2.2.2⟩
  have HLL := Lib.hid hL2
  clear c0 c4 d0 ha1 c1 c2 c3 hL2
  have c1 := HV1.out.c1
  have c2 := HV1.out.c2
  have c3 := HV1.out.c3
  rw [← HAE.out] at c1
  rw [← HGE.out] at c2
  rw [HLV.out, ← HLE.out] at c3
  go_wp2_with fail
  go_region_held3 (fun wx => wx.cell? ⟨v, 1, none⟩ = some (.int .i64 (A : Int)) ∧ wx.cell? ⟨v, 2, none⟩ = some (.int .i64 (G : Int)) ∧ wx.cell? ⟨v, 3, none⟩ = some (.slice la L lc)) (first | exact ⟨c1, c2, c3⟩ | exact ⟨q1, q2, q3⟩)
    (first | (go_at_call 40; refine (HL.out _ (HLL.out _ ?_)).mono ?_; (exact ⟨rfl, rfl, rfl, rfl⟩); rintro e w2 ⟨rfl, R2, H2⟩; have q1 := H2.out.2.1.c1; have q2 := H2.out.2.1.c2; have q3 := H2.out.2.1.c3; simp only [← HAE.out] at q1; simp only [← HGE.out] at q2; rw [HLV.out, ← HLE.out] at q3))
  clear q1 q2 q3 c1 c2 c3
  go_wp2
  go_ret
  exact ⟨rfl, R2, H2.out.1, H2.out.2.1, H2.out.2.2.1, H2.out.2.2.2⟩

set_option maxHeartbeats 4000000 in
theorem mapp_ok (t : ByteArray) (h : DskR w B R m g s fu) (hV : InvV w B V v m l lv) (hdis : ∀ k, R k → ¬ V k) (hb : l.broken = false) (hbig : s.Big) (hl : t.size + 14 ≤ s.size) (hf : l.list.length + 1 < s.half) (ha : l.area ≤ 1) (hgen : l.gen < 4294967296) (hc : fu.count < 900000) (hln : s.opn.length < 900000) (hBw : B ≤ w.heap.size) (hok : layOk fu = true) (hne : 0 < l.list.length) :
    Calls Try.prog 16 #[.pointer (some ⟨v, 0, none⟩), .string t] w fun e w' => e = .returned (.int .i64 0) ∧ ∃ R' V' lv', DskR w' B R' m g (layS s fu (l.area * s.half + (l.list.length + 1)) (secB l.gen (l.list.length + 1) t s.size)) (layF fu) ∧ InvV w' B V' v m { l with list := l.list ++ [t] } lv' ∧ (∀ k, R' k → R k ∨ w.heap.size ≤ k) ∧ (∀ k, V' k → V k ∨ w.heap.size ≤ k) ∧ (∀ k, R' k → ¬ V' k) ∧ Kept (fun k => R k ∨ V k) w w' := by
  have hn1 := h.good.n1
  have hf5 : s.half ≤ 512 := by unfold Dk.half; omega
  have h2h : 2 * s.half ≤ s.now.length := by unfold Dk.half; omega
  have hah : l.area * s.half ≤ s.half := by rcases (by omega : l.area = 0 ∨ l.area = 1) with e | e <;> rw [e] <;> omega
  have c4 := hV.c4
  rw [hb] at c4
  have c0 := hV.c0
  have c1 := hV.c1
  have c2 := hV.c2
  obtain ⟨la, lc, c3, hlv⟩ := hV.shape
  have d0 := h.c0
  have hsz := h.good.sz
  have hb1 := hbig.size
  have HR := Lib.hid (mroom_any h hV (by omega))
  obtain ⟨L1, hL1⟩ : ∃ L1, L1 = l.list.length + 1 := ⟨_, rfl⟩
  obtain ⟨A, hA⟩ : ∃ A, A = l.area := ⟨_, rfl⟩
  obtain ⟨G, hG⟩ : ∃ G, G = l.gen := ⟨_, rfl⟩
  have HL : Hid (∀ wd, Alike wd w → Calls Try.prog 40 #[.pointer (some ⟨v, 0, none⟩), .int .i64 (A : Int), .int .i64 (G : Int), .int .i64 (L1 : Int), .string t] wd fun e w' => e = .returned (.bool true) ∧
      ∃ R', Hid (DskR w' B R' m g (layS s fu (l.area * s.half + (l.list.length + 1)) (secB l.gen (l.list.length + 1) t s.size)) (layF fu) ∧ InvV w' B V v m { l with broken := l.broken } lv ∧ (∀ k, R' k → R k ∨ w.heap.size ≤ k) ∧ Kept (fun k => R k ∨ V k) w w')) := Lib.hid (fun wd hd => by
    rw [hL1, hA, hG]
    have hh := lay_here hd l.area l.gen (l.list.length + 1) _ t h hV hdis hbig hgen (by omega) hl ha rfl (by omega) hc hln hBw
    rw [hok] at hh
    exact hh)
  obtain ⟨S', hS'⟩ : ∃ S', S' = layS s fu (l.area * s.half + (l.list.length + 1)) (secB l.gen (l.list.length + 1) t s.size) := ⟨_, rfl⟩
  rw [← hS'] at HL ⊢
  obtain ⟨sz, hsz'⟩ : ∃ sz, sz = s.size := ⟨_, rfl⟩
  rw [← hsz'] at d0 hsz hb1 hl
  have e7 : decide ((sz : Int) - 14 < (t.size : Int)) = false := by simp; omega
  obtain ⟨r, hr⟩ : ∃ r : Int, r = (s.half : Int) - 1 - (l.list.length : Int) := ⟨_, rfl⟩
  rw [← hr] at HR
  have e8 : decide (r ≤ 0) = false := by simp; omega
  obtain ⟨L, hL⟩ : ∃ L, L = l.list.length := ⟨_, rfl⟩
  rw [← hL] at c3 hf
  rw [← hA] at c1
  rw [← hG] at c2
  have eL : (L : Int) + 1 = (L1 : Int) := by omega
  have eW : IntKind.i64.wrap (L1 : Int) = (L1 : Int) := IntWalk.i64_in _ (by omega)
  have hL5 : L ≤ 512 := by omega
  have HLE := Lib.hid hL
  have HAE := Lib.hid hA
  have HGE := Lib.hid hG
  have HLV := Lib.hid hlv
  have HV := Lib.hid hV
  have HDIS := Lib.hid hdis
  have HD := Lib.hid h
  have HBW := Lib.hid hBw
  clear hL1 hsz' h hV hb hbig hr hf hL hA hG ha hah hgen hlv hn1 hf5 h2h hc hln hok hdis hS' hBw
  go_enter Try.func16, Try.ntmps16
  go_wp2_with fail
  refine (mroom_in sz _ hb1 hsz).mono ?_
  rintro e w' ⟨rfl, rfl⟩
  go_wp2_with fail
  refine HR.out.mono ?_
  rintro e w1 ⟨rfl, ha1⟩
  have HA1 := Lib.hid ha1
  have HV1 := Lib.hid (HV.out.alike ha1)
  have hL2 : ∀ wd, Alike wd w1 → Alike wd w := fun wd hd => ⟨hd.1.trans ha1.1, hd.2.1.trans ha1.2.1, hd.2.2.1.trans ha1.2.2.1, hd.2.2.2.trans ha1.2.2.2⟩
  have HLL := Lib.hid hL2
  clear c0 c4 d0 ha1 c1 c2 c3 hL2
  have c1 := HV1.out.c1
  have c2 := HV1.out.c2
  have c3 := HV1.out.c3
  rw [← HAE.out] at c1
  rw [← HGE.out] at c2
  rw [HLV.out, ← HLE.out] at c3
  go_wp2_with fail
  go_region_held3 (fun wx => wx.cell? ⟨v, 1, none⟩ = some (.int .i64 (A : Int)) ∧ wx.cell? ⟨v, 2, none⟩ = some (.int .i64 (G : Int)) ∧ wx.cell? ⟨v, 3, none⟩ = some (.slice la L lc)) (first | exact ⟨c1, c2, c3⟩ | exact ⟨q1, q2, q3⟩)
    (first | (go_at_call 40; refine (HL.out _ (HLL.out _ ?_)).mono ?_; (exact ⟨rfl, rfl, rfl, rfl⟩); rintro e w2 ⟨rfl, R2, H2⟩; have q1 := H2.out.2.1.c1; have q2 := H2.out.2.1.c2; have q3 := H2.out.2.1.c3; simp only [← HAE.out] at q1; simp only [← HGE.out] at q2; rw [HLV.out, ← HLE.out] at q3))
  have HSB : Hid (B ≤ w2.heap.size) := Lib.hid (Nat.le_trans HBW.out H2.out.2.2.2.size)
  obtain ⟨i9, hi9, hz90, hz91, hz92⟩ := info_parts Tinfo9
  have HIA := Lib.hid (H2.out.2.1.alloc (.cells #[] 9))
  have HDA := Lib.hid (H2.out.1.alloc (.cells #[] 9))
  clear c1 c2 c3 q1 q2 q3
  have c83 := HIA.out.c3
  obtain ⟨k8, kc8, hkv8⟩ := own_form H2.out.2.1.ol hne
  rw [hkv8, ← HLE.out] at c83
  have HOW8 : Hid (w2.ownsRow B 9 1 (.slice (some ⟨k8, 0, none⟩) L kc8) L (strs l.list)) := Lib.hid (by rw [HLE.out, ← hkv8]; exact H2.out.2.1.ol)
  have HKV8 : Hid (lv = .slice (some ⟨k8, 0, none⟩) L kc8) := Lib.hid (by rw [HLE.out]; exact hkv8)
  have HPOS : Hid (0 < L) := Lib.hid (by rw [HLE.out]; exact hne)
  have HL5 := Lib.hid hL5
  clear hkv8 hne hL5
  go_wp2_with (first | (at_builtin; refine wpList_append_lies _ rfl (.tmp 42) (.tmp 46) 36 rfl B 9 i9 (.string ⟨#[]⟩) 1 16 Try.underlying36 hi9 hz90 hz91 hz92 rfl (by decide) (.slice (some ⟨w2.heap.size, 0, none⟩) 0 0) 0 [] rfl (World.ownsRow_made w2 #[] 0 HSB.out (Nat.zero_le _) rfl) ⟨k8, 0, none⟩ L kc8 (strs l.list) rfl (by rw [strs_len, Nat.mul_one, HLE.out]) (own_src (HOW8.out.alloc _)) (strs_one _) HPOS.out (by have := HL5.out; unfold maxLen; omega) (by have := HL5.out; omega) (by have := HSB.out; simp; omega) _ rfl ?_; intro g8a cap8a w8a hown8a hgr8a hor8a hlt8a; rw [Nat.zero_add] at hown8a ⊢; rw [List.nil_append] at hown8a) | (at_builtin; go_must (refine wpList_append_lies _ rfl (.tmp 47) (.tmp 49) 36 rfl B 9 i9 (.string ⟨#[]⟩) 1 16 Try.underlying36 hi9 hz90 hz91 hz92 rfl (by decide) (.slice (some ⟨g8a, 0, none⟩) L cap8a) L (strs l.list) rfl (hown8a.alloc _) ⟨w8a.heap.size, 0, none⟩ 1 1 [.string t] rfl rfl (cell_one_new _ _ _) (by simp [Value.oneCell']) (by decide) (by have := HL5.out; unfold maxLen; omega) (by have := HL5.out; omega) (by have := hgr8a.size; have := HSB.out; simp at *; omega) _ rfl ?_); intro g8 cap8 w8 hown8 hgr8 hor8 hlt8; have HIG := Lib.hid (((HIA.out.grown hgr8a (fun k hk hR => by obtain rfl : w2.heap.size = k := (by simpa [Value.ownBlock] using hk); have := (H2.out.2.1.lt _ hR).2; omega)).alloc _).grown hgr8 (fun k hk hR => by obtain rfl : g8a = k := (by simpa [Value.ownBlock] using hk); have h2 := (H2.out.2.1.lt _ hR).2; have h3 := lies_ge hor8a; omega)); have HDG := Lib.hid (((HDA.out.grown hgr8a (fun k hk hR => by obtain rfl : w2.heap.size = k := (by simpa [Value.ownBlock] using hk); have := (H2.out.1.lt _ hR).2; omega)).alloc _).grown hgr8 (fun k hk hR => by obtain rfl : g8a = k := (by simpa [Value.ownBlock] using hk); have h2 := (H2.out.1.lt _ hR).2; have h3 := lies_ge hor8a; omega)); have q83 := HIG.out.c3; have q84 := HIG.out.fr 3; rw [HKV8.out] at q83))
  go_ret
  have hsz8 : w2.heap.size ≤ w8.heap.size := by have h1 := hgr8.size; have h2 := hgr8a.size; simp at h1 h2; omega
  have hge8 : w2.heap.size ≤ g8 := Nat.le_trans (lies_ge hor8a) (lies_ge2 hor8 (by have := hlt8a; simp; omega))
  have hsw := H2.out.2.2.2.size
  have hV8 : ∀ k, (V k ∨ k = g8) → B ≤ k ∧ k < w8.heap.size := by
    rintro k (hk | rfl)
    · exact HIG.out.lt k hk
    · exact ⟨by have := HSB.out; omega, hlt8⟩
  have hown : w8.ownsRow B 9 1 (.slice (some ⟨g8, 0, none⟩) (L + 1) cap8) (l.list ++ [t]).length (strs (l.list ++ [t])) := by
    rw [List.length_append, ← HLE.out]
    have h := hown8
    rw [show strs l.list ++ [.string t] = strs (l.list ++ [t]) by simp [strs]] at h
    exact h
  have hset := (HIG.out.mono (Q := fun k => V k ∨ k = g8) (fun k hk => .inl hk) hV8).set3 (.slice (some ⟨g8, 0, none⟩) (L + 1) cap8) (l.list ++ [t]) hown (fun k hk => .inr (by simpa [Value.ownBlock] using hk.symm)) (fun h => by simp at h)
  have hnv : ¬ R2 v := fun hr => by
    rcases H2.out.2.2.1 v hr with h | h
    · exact HDIS.out v h HV.out.pv
    · have := (HV.out.lt v HV.out.pv).2; omega
  refine ⟨rfl, R2, fun k => V k ∨ k = g8, _, HDG.out.beside hnv 3 _, hset, H2.out.2.2.1, ?_, ?_, ?_⟩
  · rintro k (hk | rfl)
    · exact .inl hk
    · exact .inr (by omega)
  · rintro k hr (hv | rfl)
    · rcases H2.out.2.2.1 k hr with h | h
      · exact HDIS.out k h hv
      · have := (HV.out.lt k hv).2; omega
    · have := (H2.out.1.lt _ hr).2; omega
  · exact ((((H2.out.2.2.2.alloc _).grown hgr8a (fun k hk hlt => by obtain rfl : w2.heap.size = k := (by simpa [Value.ownBlock] using hk); omega)).alloc _).grown hgr8 (fun k hk hlt => by obtain rfl : g8a = k := (by simpa [Value.ownBlock] using hk); have h3 := lies_ge hor8a; omega)).setCell (fun _ => .inr HV.out.pv) _

set_option maxHeartbeats 4000000 in
theorem mapp_first (t : ByteArray) (h : DskR w B R m g s fu) (hV : InvV w B V v m l lv) (hdis : ∀ k, R k → ¬ V k) (hb : l.broken = false) (hbig : s.Big) (hl : t.size + 14 ≤ s.size) (hf : l.list.length + 1 < s.half) (ha : l.area ≤ 1) (hgen : l.gen < 4294967296) (hc : fu.count < 900000) (hln : s.opn.length < 900000) (hBw : B ≤ w.heap.size) (hok : layOk fu = true) (hne : l.list = []) :
    Calls Try.prog 16 #[.pointer (some ⟨v, 0, none⟩), .string t] w fun e w' => e = .returned (.int .i64 0) ∧ ∃ R' V' lv', DskR w' B R' m g (layS s fu (l.area * s.half + (l.list.length + 1)) (secB l.gen (l.list.length + 1) t s.size)) (layF fu) ∧ InvV w' B V' v m { l with list := l.list ++ [t] } lv' ∧ (∀ k, R' k → R k ∨ w.heap.size ≤ k) ∧ (∀ k, V' k → V k ∨ w.heap.size ≤ k) ∧ (∀ k, R' k → ¬ V' k) ∧ Kept (fun k => R k ∨ V k) w w' := by
  have hn1 := h.good.n1
  have hf5 : s.half ≤ 512 := by unfold Dk.half; omega
  have h2h : 2 * s.half ≤ s.now.length := by unfold Dk.half; omega
  have hah : l.area * s.half ≤ s.half := by rcases (by omega : l.area = 0 ∨ l.area = 1) with e | e <;> rw [e] <;> omega
  have c4 := hV.c4
  rw [hb] at c4
  have c0 := hV.c0
  have c1 := hV.c1
  have c2 := hV.c2
  obtain ⟨la, lc, c3, hlv⟩ := hV.shape
  have d0 := h.c0
  have hsz := h.good.sz
  have hb1 := hbig.size
  have HR := Lib.hid (mroom_any h hV (by omega))
  obtain ⟨L1, hL1⟩ : ∃ L1, L1 = l.list.length + 1 := ⟨_, rfl⟩
  obtain ⟨A, hA⟩ : ∃ A, A = l.area := ⟨_, rfl⟩
  obtain ⟨G, hG⟩ : ∃ G, G = l.gen := ⟨_, rfl⟩
  have HL : Hid (∀ wd, Alike wd w → Calls Try.prog 40 #[.pointer (some ⟨v, 0, none⟩), .int .i64 (A : Int), .int .i64 (G : Int), .int .i64 (L1 : Int), .string t] wd fun e w' => e = .returned (.bool true) ∧
      ∃ R', Hid (DskR w' B R' m g (layS s fu (l.area * s.half + (l.list.length + 1)) (secB l.gen (l.list.length + 1) t s.size)) (layF fu) ∧ InvV w' B V v m { l with broken := l.broken } lv ∧ (∀ k, R' k → R k ∨ w.heap.size ≤ k) ∧ Kept (fun k => R k ∨ V k) w w')) := Lib.hid (fun wd hd => by
    rw [hL1, hA, hG]
    have hh := lay_here hd l.area l.gen (l.list.length + 1) _ t h hV hdis hbig hgen (by omega) hl ha rfl (by omega) hc hln hBw
    rw [hok] at hh
    exact hh)
  obtain ⟨S', hS'⟩ : ∃ S', S' = layS s fu (l.area * s.half + (l.list.length + 1)) (secB l.gen (l.list.length + 1) t s.size) := ⟨_, rfl⟩
  rw [← hS'] at HL ⊢
  obtain ⟨sz, hsz'⟩ : ∃ sz, sz = s.size := ⟨_, rfl⟩
  rw [← hsz'] at d0 hsz hb1 hl
  have e7 : decide ((sz : Int) - 14 < (t.size : Int)) = false := by simp; omega
  obtain ⟨r, hr⟩ : ∃ r : Int, r = (s.half : Int) - 1 - (l.list.length : Int) := ⟨_, rfl⟩
  rw [← hr] at HR
  have e8 : decide (r ≤ 0) = false := by simp; omega
  obtain ⟨L, hL⟩ : ∃ L, L = l.list.length := ⟨_, rfl⟩
  rw [← hL] at c3 hf
  rw [← hA] at c1
  rw [← hG] at c2
  have eL : (L : Int) + 1 = (L1 : Int) := by omega
  have eW : IntKind.i64.wrap (L1 : Int) = (L1 : Int) := IntWalk.i64_in _ (by omega)
  have hL5 : L ≤ 512 := by omega
  have HLE := Lib.hid hL
  have HAE := Lib.hid hA
  have HGE := Lib.hid hG
  have HLV := Lib.hid hlv
  have HV := Lib.hid hV
  have HDIS := Lib.hid hdis
  have HD := Lib.hid h
  have HBW := Lib.hid hBw
  clear hL1 hsz' h hV hb hbig hr hf hL hA hG ha hah hgen hlv hn1 hf5 h2h hc hln hok hdis hS' hBw
  go_enter Try.func16, Try.ntmps16
  go_wp2_with fail
  refine (mroom_in sz _ hb1 hsz).mono ?_
  rintro e w' ⟨rfl, rfl⟩
  go_wp2_with fail
  refine HR.out.mono ?_
  rintro e w1 ⟨rfl, ha1⟩
  have HA1 := Lib.hid ha1
  have HV1 := Lib.hid (HV.out.alike ha1)
  have hL2 : ∀ wd, Alike wd w1 → Alike wd w := fun wd hd => ⟨hd.1.trans ha1.1, hd.2.1.trans ha1.2.1, hd.2.2.1.trans ha1.2.2.1, hd.2.2.2.trans ha1.2.2.2⟩
  have HLL := Lib.hid hL2
  clear c0 c4 d0 ha1 c1 c2 c3 hL2
  have c1 := HV1.out.c1
  have c2 := HV1.out.c2
  have c3 := HV1.out.c3
  rw [← HAE.out] at c1
  rw [← HGE.out] at c2
  rw [HLV.out, ← HLE.out] at c3
  go_wp2_with fail
  go_region_held3 (fun wx => wx.cell? ⟨v, 1, none⟩ = some (.int .i64 (A : Int)) ∧ wx.cell? ⟨v, 2, none⟩ = some (.int .i64 (G : Int)) ∧ wx.cell? ⟨v, 3, none⟩ = some (.slice la L lc)) (first | exact ⟨c1, c2, c3⟩ | exact ⟨q1, q2, q3⟩)
    (first | (go_at_call 40; refine (HL.out _ (HLL.out _ ?_)).mono ?_; (exact ⟨rfl, rfl, rfl, rfl⟩); rintro e w2 ⟨rfl, R2, H2⟩; have q1 := H2.out.2.1.c1; have q2 := H2.out.2.1.c2; have q3 := H2.out.2.1.c3; simp only [← HAE.out] at q1; simp only [← HGE.out] at q2; rw [HLV.out, ← HLE.out] at q3))
  have HSB : Hid (B ≤ w2.heap.size) := Lib.hid (Nat.le_trans HBW.out H2.out.2.2.2.size)
  obtain ⟨i9, hi9, hz90, hz91, hz92⟩ := info_parts Tinfo9
  have HIA := Lib.hid (H2.out.2.1.alloc (.cells #[] 9))
  have HDA := Lib.hid (H2.out.1.alloc (.cells #[] 9))
  clear c1 c2 c3 q1 q2 q3
  have c83 := HIA.out.c3
  have HKV8 : Hid (lv = .slice none 0 0) := Lib.hid (HV.out.e0 hne)
  rw [HKV8.out] at c83
  have HNE := Lib.hid hne
  clear hne hL5
  go_wp2_with (first | (at_builtin; refine wpList_append_own_none rfl (.tmp 42) (.tmp 46) 36 rfl B 9 i9 1 Try.underlying36 hi9 (.slice (some ⟨w2.heap.size, 0, none⟩) 0 0) 0 [] rfl (World.ownsRow_made w2 #[] 0 HSB.out (Nat.zero_le _) rfl) rfl ?_) | (at_builtin; go_must (refine wpList_append_lies _ rfl (.tmp 47) (.tmp 49) 36 rfl B 9 i9 (.string ⟨#[]⟩) 1 16 Try.underlying36 hi9 hz90 hz91 hz92 rfl (by decide) (.slice (some ⟨w2.heap.size, 0, none⟩) 0 0) 0 [] rfl ((World.ownsRow_made w2 #[] 0 HSB.out (Nat.zero_le _) rfl).alloc _) ⟨w2.heap.size + 1, 0, none⟩ 1 1 [.string t] rfl rfl (cell_one_at _ _ _ _ (by simp)) (by simp [Value.oneCell']) (by decide) (by decide) (by decide) (by have := HSB.out; simp; omega) _ rfl ?_); intro g8 cap8 w8 hown8 hgr8 hor8 hlt8; have HIG := Lib.hid ((HIA.out.alloc _).grown hgr8 (fun k hk hR => by obtain rfl : w2.heap.size = k := (by simpa [Value.ownBlock] using hk); have := (H2.out.2.1.lt _ hR).2; omega)); have HDG := Lib.hid ((HDA.out.alloc _).grown hgr8 (fun k hk hR => by obtain rfl : w2.heap.size = k := (by simpa [Value.ownBlock] using hk); have := (H2.out.1.lt _ hR).2; omega)); have q83 := HIG.out.c3; have q84 := HIG.out.fr 3; rw [HKV8.out] at q83))
  go_ret
  have hsz8 : w2.heap.size ≤ w8.heap.size := by have h1 := hgr8.size; simp at h1; omega
  have hge8 : w2.heap.size ≤ g8 := lies_ge hor8 (by first | (simp; done) | (simp; omega))
  have hsw := H2.out.2.2.2.size
  have hV8 : ∀ k, (V k ∨ k = g8) → B ≤ k ∧ k < w8.heap.size := by
    rintro k (hk | rfl)
    · exact HIG.out.lt k hk
    · exact ⟨by have := HSB.out; omega, hlt8⟩
  have hown : w8.ownsRow B 9 1 (.slice (some ⟨g8, 0, none⟩) (0 + 1) cap8) (l.list ++ [t]).length (strs (l.list ++ [t])) := by
    rw [HNE.out]
    exact hown8
  have hset := (HIG.out.mono (Q := fun k => V k ∨ k = g8) (fun k hk => .inl hk) hV8).set3 (.slice (some ⟨g8, 0, none⟩) (0 + 1) cap8) (l.list ++ [t]) hown (fun k hk => .inr (by simpa [Value.ownBlock] using hk.symm)) (fun h => by simp at h)
  have hnv : ¬ R2 v := fun hr => by
    rcases H2.out.2.2.1 v hr with h | h
    · exact HDIS.out v h HV.out.pv
    · have := (HV.out.lt v HV.out.pv).2; omega
  refine ⟨rfl, R2, fun k => V k ∨ k = g8, _, HDG.out.beside hnv 3 _, hset, H2.out.2.2.1, ?_, ?_, ?_⟩
  · rintro k (hk | rfl)
    · exact .inl hk
    · exact .inr (by omega)
  · rintro k hr (hv | rfl)
    · rcases H2.out.2.2.1 k hr with h | h
      · exact HDIS.out k h hv
      · have := (HV.out.lt k hv).2; omega
    · have := (H2.out.1.lt _ hr).2; omega
  · exact (((H2.out.2.2.2.alloc _).alloc _).grown hgr8 (fun k hk hlt => by obtain rfl : w2.heap.size = k := (by simpa [Value.ownBlock] using hk); omega)).setCell (fun _ => .inr HV.out.pv) _

/-- The document's Append, all ways. -/
theorem mappend_W {U : Nat → Prop} (t : ByteArray) (hts : t.size ≤ maxLen) (hW : WalR w B U m g s fu v l) (hbig : s.Big) (hlen : l.list.length + 1 ≤ s.half) (ha : l.area ≤ 1) (hgen : l.gen < 4294967296) (hc : fu.count < 900000) (hln : s.opn.length < 900000) (hBw : B ≤ w.heap.size) :
    Calls Try.prog 16 #[.pointer (some ⟨v, 0, none⟩), .string t] w fun e w' => e = .returned (.int .i64 (appendR s fu l t).1) ∧ ∃ U', WalR w' B U' m g (appendR s fu l t).2.1 (appendR s fu l t).2.2.1 v (appendR s fu l t).2.2.2 ∧ Kept U w w' ∧ (∀ k, U' k → U k ∨ w.heap.size ≤ k) := by
  obtain ⟨R, V, lv, hD, hV, hdis, hRU, hVU, hU⟩ := hW
  have hf5 : s.half ≤ 512 := by have := hD.good.n1; unfold Dk.half; omega
  have same : ∀ (c : Int), Calls Try.prog 16 #[.pointer (some ⟨v, 0, none⟩), .string t] w (fun e w' => e = .returned (.int .i64 c) ∧ Alike w' w) → Calls Try.prog 16 #[.pointer (some ⟨v, 0, none⟩), .string t] w fun e w' => e = .returned (.int .i64 c) ∧ ∃ U', WalR w' B U' m g s fu v l ∧ Kept U w w' ∧ (∀ k, U' k → U k ∨ w.heap.size ≤ k) := by
    intro c hcall
    refine hcall.mono ?_
    rintro e w' ⟨rfl, hA⟩
    refine ⟨rfl, U, ⟨R, V, lv, hD.alike hA, hV.alike hA, hdis, hRU, hVU, fun k hk => by rw [hA.2.2.2]; exact hU k hk⟩, ⟨hA.1, hA.2.1, hA.2.2.1, by rw [hA.2.2.2]; exact Nat.le_refl _, fun k _ _ => by rw [hA.2.2.2]⟩, fun k hk => .inl hk⟩
  have quiet : ∀ {c : Int}, Calls Try.prog 16 #[.pointer (some ⟨v, 0, none⟩), .string t] w (fun e w' => e = .returned (.int .i64 c) ∧ w = w') → Calls Try.prog 16 #[.pointer (some ⟨v, 0, none⟩), .string t] w (fun e w' => e = .returned (.int .i64 c) ∧ Alike w' w) := fun hcall => hcall.mono fun e w' ⟨he, hw⟩ => ⟨he, by subst hw; exact ⟨rfl, rfl, rfl, rfl⟩⟩
  by_cases hb : l.broken = true
  · have e : appendR s fu l t = (2, s, fu, l) := by unfold appendR; rw [if_pos hb]
    rw [e]
    exact same 2 (quiet (mapp_broken t hV hb))
  have hb' : l.broken = false := by simpa using hb
  by_cases hl : s.size < t.size + 14
  · have e : appendR s fu l t = (5, s, fu, l) := by unfold appendR; rw [if_neg hb, if_pos hl]
    rw [e]
    exact same 5 (quiet (mapp_long t hts hD hV hb' hbig hl))
  by_cases hfu : s.half ≤ l.list.length + 1
  · have e : appendR s fu l t = (3, s, fu, l) := by unfold appendR; rw [if_neg hb, if_neg hl, if_pos hfu]
    rw [e]
    exact same 3 (mapp_full t hD hV hb' hbig (by omega) (by omega) hfu)
  have key : ∀ {w' : World} {R' V' : Nat → Prop} {lv' : Value} {s' : Dk} {fu' : Fu} {l' : Lg}, DskR w' B R' m g s' fu' → InvV w' B V' v m l' lv' → (∀ k, R' k → R k ∨ w.heap.size ≤ k) → (∀ k, V' k → V k ∨ w.heap.size ≤ k) → (∀ k, R' k → ¬ V' k) → Kept (fun k => R k ∨ V k) w w' → ∃ U', WalR w' B U' m g s' fu' v l' ∧ Kept U w w' ∧ (∀ k, U' k → U k ∨ w.heap.size ≤ k) := by
    intro w' R' V' lv' s' fu' l' h1 h2 h3 h4 h5 h6
    refine ⟨fun k => R' k ∨ V' k, ⟨R', V', lv', h1, h2, h5, fun k hk => .inl hk, fun k hk => .inr hk, ?_⟩, ⟨h6.os, h6.tape, h6.output, h6.size, fun k hk hn => h6.block k hk (fun h => hn (h.elim (hRU k) (hVU k)))⟩, ?_⟩
    · rintro k (hk | hk)
      · exact h1.lt k hk
      · exact h2.lt k hk
    · rintro k (hk | hk)
      · exact (h3 k hk).imp (hRU k) id
      · exact (h4 k hk).imp (hVU k) id
  cases hok : layOk fu with
  | false =>
    have e : appendR s fu l t = (2, layS s fu (l.area * s.half + (l.list.length + 1)) (secB l.gen (l.list.length + 1) t s.size), layF fu, { l with broken := true }) := by unfold appendR; rw [if_neg hb, if_neg hl, if_neg hfu, hok]; rfl
    rw [e]
    refine (mapp_no t hD hV hdis hb' hbig (by omega) (by omega) ha hgen hc hln hBw hok).mono ?_
    rintro e w' ⟨rfl, R', h1, h2, h3, h4⟩
    refine ⟨rfl, key h1 h2 h3 (fun k hk => .inl hk) (fun k hr hv => ?_) h4⟩
    rcases h3 k hr with h | h
    · exact hdis k h hv
    · have := (hV.lt k hv).2; omega
  | true =>
    have e : appendR s fu l t = (0, layS s fu (l.area * s.half + (l.list.length + 1)) (secB l.gen (l.list.length + 1) t s.size), layF fu, { l with list := l.list ++ [t] }) := by unfold appendR; rw [if_neg hb, if_neg hl, if_neg hfu, hok]; rfl
    rw [e]
    have hcall : Calls Try.prog 16 #[.pointer (some ⟨v, 0, none⟩), .string t] w fun e w' => e = .returned (.int .i64 0) ∧ ∃ R' V' lv', DskR w' B R' m g (layS s fu (l.area * s.half + (l.list.length + 1)) (secB l.gen (l.list.length + 1) t s.size)) (layF fu) ∧ InvV w' B V' v m { l with list := l.list ++ [t] } lv' ∧ (∀ k, R' k → R k ∨ w.heap.size ≤ k) ∧ (∀ k, V' k → V k ∨ w.heap.size ≤ k) ∧ (∀ k, R' k → ¬ V' k) ∧ Kept (fun k => R k ∨ V k) w w' := by
      by_cases hne : l.list = []
      · exact mapp_first t hD hV hdis hb' hbig (by omega) (by omega) ha hgen hc hln hBw hok hne
      · exact mapp_ok t hD hV hdis hb' hbig (by omega) (by omega) ha hgen hc hln hBw hok (List.length_pos_iff.2 hne)
    refine hcall.mono ?_
    rintro e w' ⟨rfl, R', V', lv', h1, h2, h3, h4, h5, h6⟩
    exact ⟨rfl, key h1 h2 h3 h4 h5 h6⟩
end Go.Proofs.Ytooikkjgcpngdaa
