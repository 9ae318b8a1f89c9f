/-
  The reference's within, least, greatest, ahead.
-/
import Derived.Test.YtflghlmikpfnpaaDoorESteps
namespace Go.Proofs.YtflghlmikpfnpaaDoor.E
open Go.RowKit

theorem RowR.at {w : World} {A : Option Addr} {l : List St} (h : RowR w w.heap.size A l) (j : Nat) (hj : j < l.length) : ∃ b off, A = some ⟨b, off, none⟩ ∧ b < w.heap.size ∧ Hid (∀ W, Below w.heap.size w W → W.cell? ⟨b, off + j * 2, none⟩ = some (.int .u64 ((l[j]'hj).1 : Int)) ∧ W.cell? ⟨b, off + j * 2 + 1, none⟩ = some (.int .i64 (l[j]'hj).2)) := by
  obtain ⟨b, off, e, hb, hc⟩ := h (by omega)
  obtain ⟨h1, h2⟩ := hc j _ (List.getElem?_eq_getElem hj)
  exact ⟨b, off, e, hb, fun W hW => ⟨(hW.cell hb).trans h1, (hW.cell hb).trans h2⟩⟩

set_option maxRecDepth 100000 in
set_option maxHeartbeats 3200000 in
theorem within_any (A : Option Addr) (c : Nat) (l : List St) (a n : Nat) (w : World) (hr : RowR w w.heap.size A l) (hl : l.length ≤ 2000000) (hv : ∀ r ∈ l, r.1 ≤ 1000000000000) (ha : a + n ≤ 1000000000000) :
    Calls Tryd.prog 70 #[.slice A l.length c, .int .u64 (a : Int), .int .u64 (n : Int)] w fun e w' => ∃ A' c', e = .returned (.slice A' (withW 0 l a n).length c') ∧ GrR w' w.heap.size A' c' (withW 0 l a n) ∧ Below w.heap.size w w' := by
  have HR := Lib.hid hr
  clear hr
  go_enter Tryd.func70, Tryd.ntmps70
  go_wp2
  go_loopg [7, 8, 9] l.length (fun k o x i wr => ∃ (j was : Nat) (L : List St) (B : Option Addr) (d : Nat), j ≤ l.length ∧ k = l.length - j ∧ i = .int .i64 j ∧ x = .int .u64 was ∧ o = .slice B L.length d ∧ Hid (L ++ withW was (l.drop j) a n = withW 0 l a n) ∧ was ≤ 1000000000000 ∧ L.length ≤ j ∧ Hid (GrR wr w.heap.size B d L) ∧ Hid (Below w.heap.size w wr))
  case atStart => exact ⟨0, 0, [], none, 0, by omega, by omega, rfl, rfl, rfl, rfl, by omega, by simp, GrR.nil _ _, Below.refl _ _⟩
  case round =>
    obtain ⟨j, was, L, B, d, hj, hgk, rfl, rfl, rfl, hL, hwas, hLj, hG, hB⟩ := hrel
    have HGK := Lib.hid hgk; clear hgk
    by_cases hlt : j < l.length
    · obtain ⟨b, off, rfl, hb, F1⟩ := HR.out.at j hlt
      have hv2 := hv _ (List.getElem_mem hlt)
      have HT : Hid (L ++ ((if max was a < min (l[j]'hlt).1 (a + n) then [(min (l[j]'hlt).1 (a + n), (l[j]'hlt).2)] else []) ++ withW (l[j]'hlt).1 (l.drop (j + 1)) a n) = withW 0 l a n) := by
        show _ = _
        rw [← hL.out, List.drop_eq_getElem_cons hlt]; rfl
      obtain ⟨y, hy⟩ : ∃ y, (l[j]'hlt).1 = y := ⟨_, rfl⟩
      obtain ⟨z, hz⟩ : ∃ z, (l[j]'hlt).2 = z := ⟨_, rfl⟩
      rw [hy] at hv2
      simp only [hy, hz] at F1 HT
      obtain ⟨f, hf⟩ : ∃ f, max was a = f := ⟨_, rfl⟩
      obtain ⟨t, ht⟩ : ∃ t, min y (a + n) = t := ⟨_, rfl⟩
      rw [hf, ht] at HT
      have hmx : (if was < a then (a : Int) else (was : Int)) = (f : Int) := by rw [← hf]; split <;> omega
      have hmn : (if (a : Int) + (n : Int) < (y : Int) then (a : Int) + (n : Int) else (y : Int)) = (t : Int) := by rw [← ht]; split <;> omega
      obtain ⟨p0, p1⟩ := F1.out wr hB.out
      have ht2 : t ≤ 1000000000000 := by omega
      have hf2 : f ≤ 1000000000000 := by omega
      clear hy hz hf ht
      by_cases hft : f < t
      · rw [if_pos hft] at HT
        obtain ⟨B6, d6, w6, hap, hg6, hb6, _⟩ := hG.out.one (t, z) 49 (by omega) hB.out.size
        have HB6 : Hid (Below w.heap.size w w6) := hB.out.trans hb6
        obtain ⟨q0, q1⟩ := F1.out w6 HB6.out
        have HT2 : Hid ((L ++ [(t, z)]) ++ withW y (l.drop (j + 1)) a n = withW 0 l a n) := by show _ = _; rw [List.append_assoc]; exact HT.out
        have HAP := Lib.hid hap
        have HG6 := Lib.hid hg6
        clear hap hg6 hb6 HT
        go_wp2_with (at_builtin; refine wpList_append_run rfl _ _ _ _ rfl _ _ rfl rfl HAP.out ?_; clear HAP)
        go_roundg (l.length - (j + 1))
        case measure => have := HGK.out; omega
        case rel => exact ⟨j + 1, y, L ++ [(t, z)], B6, d6, by omega, rfl, by go_num, rfl, by simp, HT2, hv2, by simp; omega, HG6, HB6⟩
      · rw [if_neg hft, List.nil_append] at HT
        go_wp2
        go_roundg (l.length - (j + 1))
        case measure => have := HGK.out; omega
        case rel => exact ⟨j + 1, y, L, B, d, by omega, rfl, by go_num, rfl, rfl, HT, hv2, by omega, hG, hB⟩
    · obtain rfl : j = l.length := by omega
      have HL : Hid (L = withW 0 l a n) := by show _ = _; rw [← hL.out, List.drop_length]; simp [withW]
      go_wp2
      go_ret
      refine ⟨B, d, ?_, ?_, hB.out⟩
      · rw [← HL.out]; rfl
      · rw [← HL.out]; exact hG.out

set_option maxRecDepth 100000 in
set_option maxHeartbeats 1600000 in
theorem least_any (A : Option Addr) (c : Nat) (l : List St) (c0 : St) (w : World) (hr : RowR w w.heap.size A l) (hl : l.length ≤ 2000000) (h0 : l[0]? = some c0) :
    Calls Tryd.prog 39 #[.slice A l.length c] w fun e w' => e = .returned (.int .i64 (minL l c0.2)) ∧ w = w' := by
  have hp : 0 < l.length := (List.getElem?_eq_some_iff.1 h0).1
  obtain ⟨b, off, rfl, hb, hc⟩ := hr hp
  obtain ⟨p0, p1⟩ := hc 0 c0 h0
  simp only [Nat.zero_mul, Nat.add_zero] at p0 p1
  have HC := Lib.hid hc
  clear hr hc
  obtain ⟨z0, hz0⟩ : ∃ z, c0.2 = z := ⟨_, rfl⟩
  rw [hz0] at p1 ⊢
  obtain ⟨len, hlen⟩ : ∃ n, l.length = n := ⟨_, rfl⟩
  have HLEN := Lib.hid hlen
  rw [hlen] at hl hp ⊢
  clear hz0 hlen h0
  go_enter Tryd.func39, Tryd.ntmps39
  go_wp2
  go_loopg [3, 4] len (fun k x i wr => ∃ (j : Nat) (z : Int), j ≤ len ∧ k = len - j ∧ x = .int .i64 z ∧ i = .int .i64 j ∧ Hid (minL (l.drop j) z = minL l z0) ∧ wr = w)
  case atStart => exact ⟨0, z0, by omega, by omega, rfl, rfl, rfl, rfl⟩
  case round =>
    obtain ⟨j, z, hj, hgk, rfl, rfl, hinv, rfl⟩ := hrel
    have HGK := Lib.hid hgk; clear hgk
    by_cases hlt : j < len
    · have hjl : j < l.length := by have := HLEN.out; omega
      obtain ⟨q0, q1⟩ := HC.out j (l[j]'hjl) (List.getElem?_eq_getElem hjl)
      have HI : Hid (minL (l.drop (j + 1)) (min z (l[j]'hjl).2) = minL l z0) := by
        show _ = _
        rw [← hinv.out, List.drop_eq_getElem_cons hjl]; rfl
      obtain ⟨y, hy⟩ : ∃ y, (l[j]'hjl).2 = y := ⟨_, rfl⟩
      rw [hy] at q1 HI
      obtain ⟨z2, hz2⟩ : ∃ z2, min z y = z2 := ⟨_, rfl⟩
      have hmn : (if y < z then y else z) = z2 := by rw [← hz2]; omega
      rw [hz2] at HI
      clear hy hz2 hinv
      go_wp2
      go_roundg (len - (j + 1))
      case measure => have := HGK.out; omega
      case rel => exact ⟨j + 1, z2, by omega, rfl, rfl, by go_num, HI, rfl⟩
    · obtain rfl : j = len := by omega
      have HI : Hid (z = minL l z0) := by
        show _ = _
        rw [← hinv.out, ← HLEN.out, List.drop_length]; rfl
      go_wp2
      go_ret
      exact ⟨ret_int HI.out, rfl⟩

set_option maxRecDepth 100000 in
set_option maxHeartbeats 1600000 in
theorem greatest_any (A : Option Addr) (c : Nat) (l : List St) (c0 : St) (w : World) (hr : RowR w w.heap.size A l) (hl : l.length ≤ 2000000) (h0 : l[0]? = some c0) :
    Calls Tryd.prog 40 #[.slice A l.length c] w fun e w' => e = .returned (.int .i64 (maxL l c0.2)) ∧ w = w' := by
  have hp : 0 < l.length := (List.getElem?_eq_some_iff.1 h0).1
  obtain ⟨b, off, rfl, hb, hc⟩ := hr hp
  obtain ⟨p0, p1⟩ := hc 0 c0 h0
  simp only [Nat.zero_mul, Nat.add_zero] at p0 p1
  have HC := Lib.hid hc
  clear hr hc
  obtain ⟨z0, hz0⟩ : ∃ z, c0.2 = z := ⟨_, rfl⟩
  rw [hz0] at p1 ⊢
  obtain ⟨len, hlen⟩ : ∃ n, l.length = n := ⟨_, rfl⟩
  have HLEN := Lib.hid hlen
  rw [hlen] at hl hp ⊢
  clear hz0 hlen h0
  go_enter Tryd.func40, Tryd.ntmps40
  go_wp2
  go_loopg [3, 4] len (fun k x i wr => ∃ (j : Nat) (z : Int), j ≤ len ∧ k = len - j ∧ x = .int .i64 z ∧ i = .int .i64 j ∧ Hid (maxL (l.drop j) z = maxL l z0) ∧ wr = w)
  case atStart => exact ⟨0, z0, by omega, by omega, rfl, rfl, rfl, rfl⟩
  case round =>
    obtain ⟨j, z, hj, hgk, rfl, rfl, hinv, rfl⟩ := hrel
    have HGK := Lib.hid hgk; clear hgk
    by_cases hlt : j < len
    · have hjl : j < l.length := by have := HLEN.out; omega
      obtain ⟨q0, q1⟩ := HC.out j (l[j]'hjl) (List.getElem?_eq_getElem hjl)
      have HI : Hid (maxL (l.drop (j + 1)) (max z (l[j]'hjl).2) = maxL l z0) := by
        show _ = _
        rw [← hinv.out, List.drop_eq_getElem_cons hjl]; rfl
      obtain ⟨y, hy⟩ : ∃ y, (l[j]'hjl).2 = y := ⟨_, rfl⟩
      rw [hy] at q1 HI
      obtain ⟨z2, hz2⟩ : ∃ z2, max z y = z2 := ⟨_, rfl⟩
      have hmn : (if z < y then y else z) = z2 := by rw [← hz2]; omega
      rw [hz2] at HI
      clear hy hz2 hinv
      go_wp2
      go_roundg (len - (j + 1))
      case measure => have := HGK.out; omega
      case rel => exact ⟨j + 1, z2, by omega, rfl, rfl, by go_num, HI, rfl⟩
    · obtain rfl : j = len := by omega
      have HI : Hid (z = maxL l z0) := by
        show _ = _
        rw [← hinv.out, ← HLEN.out, List.drop_length]; rfl
      go_wp2
      go_ret
      exact ⟨ret_int HI.out, rfl⟩
end Go.Proofs.YtflghlmikpfnpaaDoor.E
