/-
  The reference's lay.
-/
import Derived.Test.YtkpefelakhbkhaaIBMath
import Derived.Test.YtkpefelakhbkhaaIOps
import Derived.Test.YtkpefelakhbkhaaRefOps
import Derived.Test.YtkpefelakhbkhaaMath2
namespace Go.Proofs.Ytkpefelakhbkhaa.I
open Go.RowKit

/-- A slice of bytes, as the texts of bits say it. -/
abbrev BR := Go.Proofs.Ytkpefelakhbkhaa.Row
theorem BR.up {w w' : World} {A : Option Addr} {l : List Nat} (h : BR w w.heap.size A l) (hb : Below w.heap.size w w') : BR w' w'.heap.size A l := (h.below hb).more hb.size
/-- Bytes and a place. -/
def LaysB (l : List Nat) (n : Nat) (w : World) (e : Ending) (w' : World) : Prop := ∃ A c, e = .returned (.tuple #[.slice A l.length c, .int .i64 (n : Int)]) ∧ BR w' w'.heap.size A l ∧ Below w.heap.size w w'
theorem digs_one : M.digs 1 1 = [1] := by decide
theorem digs_leaf (o : Bool) : M.digs (if o = true then 1 else 0) 2 = bitsT (.leaf o) := by cases o <;> decide
theorem put_len {l : List Nat} {n : Nat} (h : M.Valid l n) (bs : List Nat) : (M.putL l n bs).length ≤ l.length + bs.length := by
  rw [M.putL_length l n bs h.1, h.1]; omega

set_option maxRecDepth 100000 in
set_option maxHeartbeats 3200000 in
theorem rlay_any : ∀ (t : Tr) (v : Value) (A : Option Addr) (c : Nat) (l : List Nat) (n : Nat) (w : World), BR w w.heap.size A l → M.Valid l n → l.length + (bitsT t).length ≤ 140737488355000 → InT w w.heap.size t v →
    Calls Try.prog 57 #[.slice A l.length c, .int .i64 (n : Int), v] w (LaysB (M.putL l n (bitsT t)) (n + (bitsT t).length) w) := by
  intro t
  induction t with
  | leaf o =>
    rintro v A c l n w hr hV hl ⟨A1, c1, rfl⟩
    have hb0 : Below w.heap.size w (w.alloc (.cells #[.bool o, .slice A1 0 c1] 24)) := (Below.refl _ w).alloc (Nat.le_refl _) _
    have h2 : (bitsT (.leaf o)).length = 2 := by cases o <;> rfl
    have HB0 := Lib.hid hb0
    cases o with
    | true =>
      have hc := rPut_yes A c l n 1 2 (w.alloc (.cells #[.bool true, .slice A1 0 c1] 24)) (BR.up hr hb0) (by omega) hV (by decide) (by decide)
      have HD : Hid (M.digs 1 2 = bitsT (.leaf true)) := digs_leaf true
      obtain ⟨k, hk⟩ : ∃ k, n + 2 = k := ⟨_, rfl⟩
      rw [h2, hk]
      rw [hk] at hc
      clear hr hb0 hV hk
      unfold tv
      go_enter Try.func57, Try.ntmps57
      go_wp2_with fail
      refine hc.mono ?_
      rintro e w1 ⟨A2, c2, rfl, hr2, hb2⟩
      have HR2 := Lib.hid hr2
      have HB2 : Hid (Below w.heap.size w w1) := HB0.out.trans (hb2.mono HB0.out.size)
      rw [HD.out] at HR2 ⊢
      clear hc hr2 hb2
      obtain ⟨L, hL⟩ : ∃ L, M.putL l n (bitsT (.leaf true)) = L := ⟨_, rfl⟩
      have HL := Lib.hid hL
      rw [hL] at HR2 ⊢
      clear hL
      go_wp2
      go_ret2
      exact ⟨A2, c2, by rw [HL.out]; rfl, by rw [HL.out]; exact HR2.out, HB2.out⟩
    | false =>
      have hc := rPut_yes A c l n 0 2 (w.alloc (.cells #[.bool false, .slice A1 0 c1] 24)) (BR.up hr hb0) (by omega) hV (by decide) (by decide)
      have HD : Hid (M.digs 0 2 = bitsT (.leaf false)) := digs_leaf false
      obtain ⟨k, hk⟩ : ∃ k, n + 2 = k := ⟨_, rfl⟩
      rw [h2, hk]
      rw [hk] at hc
      clear hr hb0 hV hk
      unfold tv
      go_enter Try.func57, Try.ntmps57
      go_wp2_with fail
      refine hc.mono ?_
      rintro e w1 ⟨A2, c2, rfl, hr2, hb2⟩
      have HR2 := Lib.hid hr2
      have HB2 : Hid (Below w.heap.size w w1) := HB0.out.trans (hb2.mono HB0.out.size)
      rw [HD.out] at HR2 ⊢
      clear hc hr2 hb2
      obtain ⟨L, hL⟩ : ∃ L, M.putL l n (bitsT (.leaf false)) = L := ⟨_, rfl⟩
      have HL := Lib.hid hL
      rw [hL] at HR2 ⊢
      clear hL
      go_wp2
      go_ret2
      exact ⟨A2, c2, by rw [HL.out]; rfl, by rw [HL.out]; exact HR2.out, HB2.out⟩
  | node x y ihx ihy =>
    rintro v A c l n w hr hV hl ⟨b, off, c1, rfl, hb, ⟨o1, A1, n1, d1, e1, e2, e3⟩, ⟨o2, A2, n2, d2, g1, g2, g3⟩⟩
    have HX0 := Lib.hid ((XS.begin w).boxed (.bool false) (.slice (some ⟨b, off, none⟩) 2 c1))
    simp only [List.nil_append] at HX0
    have hlen : (bitsT (.node x y)).length = 1 + (bitsT x).length + (bitsT y).length := by simp [bitsT]; omega
    have hc := rPut_yes A c l n 1 1 (w.alloc (.cells #[.bool false, .slice (some ⟨b, off, none⟩) 2 c1] 24)) (BR.up hr HX0.out.bel) (by omega) hV (by decide) (by decide)
    rw [digs_one] at hc
    have hV1 := M.put_valid [1] hr.1 hV (by simp)
    have hl1 := put_len hV [1]
    have HE : Hid (M.putL l n (bitsT (.node x y)) = M.putL (M.putL (M.putL l n [1]) (n + 1) (bitsT x)) (n + 1 + (bitsT x).length) (bitsT y)) := by
      show _ = _
      rw [show bitsT (.node x y) = [1] ++ (bitsT x ++ bitsT y) from rfl, M.putL_append, M.putL_append]
      rfl
    have HF : Hid (∀ W, XS w [(w.heap.size, .bool false, .slice (some ⟨b, off, none⟩) 2 c1)] [] W → W.cell? ⟨w.heap.size, 1, none⟩ = some (.slice (some ⟨b, off, none⟩) 2 c1) ∧ W.cell? ⟨b, off, none⟩ = some (.bool o1) ∧ W.cell? ⟨b, off + 1, none⟩ = some (.slice A1 n1 d1) ∧ W.cell? ⟨b, off + 2, none⟩ = some (.bool o2) ∧ W.cell? ⟨b, off + 2 + 1, none⟩ = some (.slice A2 n2 d2)) := fun W hW => by
      have low : ∀ i, W.cell? ⟨b, i, none⟩ = w.cell? ⟨b, i, none⟩ := fun i => hW.bel.cell hb
      exact ⟨(hW.at0 _ List.mem_cons_self).2.1, (low _).trans e1, (low _).trans e2, (low _).trans g1, (low _).trans g2⟩
    simp only [List.length_singleton] at hV1 hl1
    obtain ⟨L1, hL1⟩ : ∃ L1, M.putL l n [1] = L1 := ⟨_, rfl⟩
    rw [hL1] at hc hV1 hl1 HE
    have HIX : Hid (∀ W A' c', XS w [(w.heap.size, .bool false, .slice (some ⟨b, off, none⟩) 2 c1)] [] W → BR W W.heap.size A' L1 → Calls Try.prog 57 #[.slice A' L1.length c', .int .i64 ((n + 1 : Nat) : Int), .agg #[.bool o1, .slice A1 n1 d1]] W (LaysB (M.putL L1 (n + 1) (bitsT x)) (n + 1 + (bitsT x).length) W)) := fun W A' c' hW hR => ihx _ A' c' L1 (n + 1) W hR hV1 (by omega) (e3.up hW.bel)
    have hL1x : ∀ q ∈ L1, q < 256 := by rw [← hL1]; exact M.putL_lt l n [1] hr.1 (by simp)
    have hV2 := M.put_valid (bitsT x) hL1x hV1 (bits_lt x)
    have hl2 := put_len hV1 (bitsT x)
    obtain ⟨L2, hL2⟩ : ∃ L2, M.putL L1 (n + 1) (bitsT x) = L2 := ⟨_, rfl⟩
    rw [hL2] at HIX hV2 hl2 HE
    obtain ⟨p, hp⟩ : ∃ p, n + 1 + (bitsT x).length = p := ⟨_, rfl⟩
    rw [hp] at HIX hV2 HE
    have HIY : Hid (∀ W A' c', XS w [(w.heap.size, .bool false, .slice (some ⟨b, off, none⟩) 2 c1)] [] W → BR W W.heap.size A' L2 → Calls Try.prog 57 #[.slice A' L2.length c', .int .i64 (p : Int), .agg #[.bool o2, .slice A2 n2 d2]] W (LaysB (M.putL L2 p (bitsT y)) (p + (bitsT y).length) W)) := fun W A' c' hW hR => ihy _ A' c' L2 p W hR hV2 (by omega) (g3.up hW.bel)
    have hq : n + (bitsT (.node x y)).length = p + (bitsT y).length := by omega
    rw [hq]
    have HQ := Lib.hid hq
    have HP := Lib.hid hp
    obtain ⟨f0, f1, f2, f3, f4⟩ := HF.out _ HX0.out
    clear ihx ihy e1 e2 e3 g1 g2 g3 hr hV hV1 hV2 hL1 hL2 hL1x hp hq hlen
    unfold tv
    go_enter Try.func57, Try.ntmps57
    go_wp2_with fail
    refine hc.mono ?_
    rintro e w1 ⟨A3, c3, rfl, hr3, hb3⟩
    have HX1 := Lib.hid (HX0.out.next hb3)
    have hcx := HIX.out w1 A3 c3 HX1.out hr3
    clear hc hr3 hb3 HX0 f0 f1 f2 f3 f4 HIX
    obtain ⟨f0, f1, f2, f3, f4⟩ := HF.out _ HX1.out
    go_wp2_with fail
    refine hcx.mono ?_
    rintro e w2 ⟨A4, c4, rfl, hr4, hb4⟩
    have HX2 := Lib.hid (HX1.out.next hb4)
    have hcy := HIY.out w2 A4 c4 HX2.out hr4
    clear hcx hr4 hb4 HX1 f0 f1 f2 f3 f4 HIY
    obtain ⟨f0, f1, f2, f3, f4⟩ := HF.out _ HX2.out
    go_wp2_with fail
    refine hcy.mono ?_
    rintro e w3 ⟨A5, c5, rfl, hr5, hb5⟩
    have HX3 := Lib.hid (HX2.out.next hb5)
    have HR5 := Lib.hid hr5
    clear hcy hr5 hb5 HX2 f0 f1 f2 f3 f4
    obtain ⟨L3, hL3⟩ : ∃ L3, M.putL L2 p (bitsT y) = L3 := ⟨_, rfl⟩
    rw [hL3] at HR5 HE ⊢
    obtain ⟨k, hk⟩ : ∃ k, p + (bitsT y).length = k := ⟨_, rfl⟩
    rw [hk]
    have HK := Lib.hid hk
    clear hL3 hk
    go_wp2
    go_ret2
    exact ⟨A5, c5, by rw [HE.out, HK.out]; rfl, by rw [HE.out]; exact HR5.out, HX3.out.bel⟩
end Go.Proofs.Ytkpefelakhbkhaa.I
