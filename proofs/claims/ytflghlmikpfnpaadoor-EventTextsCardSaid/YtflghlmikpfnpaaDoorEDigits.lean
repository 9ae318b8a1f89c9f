/-
  The reference's Digits.
-/
import Derived.Test.YtflghlmikpfnpaaDoorENum
namespace Go.Proofs.YtflghlmikpfnpaaDoor.E
open Go.RowKit

theorem strU_append (l m : List UInt8) : strU l ++ strU m = strU (l ++ m) := by
  apply ByteArray.ext
  rw [ByteArray.data_append]
  simp [strU]
theorem strU_size (l : List UInt8) : (strU l).size = l.length := by simp [strU, ByteArray.size]
theorem strU_nil {l : List UInt8} (h : strU l = ⟨#[]⟩) : l = [] := by
  have := strU_size l
  rw [h] at this
  exact List.eq_nil_of_length_eq_zero (by rw [← this]; rfl)
/-- What Digits has: the digits behind, and the number ahead of them. -/
def Dg (N V : Nat) (l : List UInt8) : Prop := (l = [] ∧ V = N) ∨ (l ≠ [] ∧ ((V = 0 ∧ Lib.decDigits N = l) ∨ (1 ≤ V ∧ Lib.decDigits N = Lib.decDigits V ++ l)))
theorem Dg.step {N V : Nat} {l : List UInt8} (h : Dg N V l) (hv : l = [] ∨ 0 < V) : Dg N (V / 10) (UInt8.ofNat (48 + V % 10) :: l) := by
  have hd : (V / 10 = 0 ∧ Lib.decDigits V = [UInt8.ofNat (48 + V % 10)]) ∨ (1 ≤ V / 10 ∧ Lib.decDigits V = Lib.decDigits (V / 10) ++ [UInt8.ofNat (48 + V % 10)]) := by
    by_cases h1 : V < 10
    · exact .inl ⟨by omega, by rw [Lib.decDigits_one h1, Nat.mod_eq_of_lt h1]⟩
    · refine .inr ⟨by omega, ?_⟩
      have := dec_snoc (n := V / 10) (d := V % 10) (by omega) (by omega)
      rw [show V / 10 * 10 + V % 10 = V by omega] at this
      exact this
  refine .inr ⟨by simp, ?_⟩
  rcases h with ⟨rfl, rfl⟩ | ⟨hl, ⟨h1, h2⟩ | ⟨h1, h2⟩⟩
  · rcases hd with ⟨d1, d2⟩ | ⟨d1, d2⟩
    · exact .inl ⟨d1, d2⟩
    · exact .inr ⟨d1, d2⟩
  · exact absurd hv (by simp [hl]; omega)
  · rcases hd with ⟨d1, d2⟩ | ⟨d1, d2⟩
    · exact .inl ⟨d1, by rw [h2, d2]; rfl⟩
    · exact .inr ⟨d1, by rw [h2, d2]; simp⟩
theorem Dg.done {N V : Nat} {l : List UInt8} (h : Dg N V l) (h1 : l ≠ []) (h2 : V = 0) : Lib.decDigits N = l := by
  rcases h with ⟨h, _⟩ | ⟨_, ⟨_, h⟩ | ⟨h, _⟩⟩
  · exact absurd h h1
  · exact h
  · omega
theorem Dg.len {N V : Nat} {l : List UInt8} (h : Dg N V l) (hN : N ≤ 4611686018427387904) : l.length ≤ 20 := by
  have hi := itoa_len (n := (N : Int)) (by omega) (by omega)
  rw [Lib.itoa_nonneg] at hi
  rcases h with ⟨rfl, _⟩ | ⟨_, ⟨_, h⟩ | ⟨_, h⟩⟩
  · simp
  · rw [← h]; omega
  · rw [h, List.length_append] at hi; omega

theorem run_one (wr : World) (b : UInt8) (X : Int) (hX : X = (b.toNat : Int)) : (convert 38 9 (.slice (some ⟨wr.heap.size, 0, none⟩) 1 1)).run Tryd.prog (wr.alloc (.cells #[.int .u8 X] 5)) = .ok (.string (strU [b])) (wr.alloc (.cells #[.int .u8 X] 5)) := by
  subst hX
  have := run_convert_bytes_arg (P := Tryd.prog) (wr.alloc (.cells #[.int .u8 (b.toNat : Int)] 5)) 38 5 Tryd.underlying38 Tryd.underlying5 wr.heap.size 0 1 1 [(b.toNat : Int)] (by simp) (fun i hi => by
    have : i = 0 := by simp at hi; omega
    subst this
    simp [go_sem]) 9 Tryd.underlying9
  rw [this]
  unfold strOfNums strU
  simp

set_option maxRecDepth 100000 in
set_option maxHeartbeats 1600000 in
theorem digits_any (n : Int) (w : World) (h0 : 0 ≤ n) (h1 : n ≤ 4611686018427387904) :
    Calls Tryd.prog 76 #[.int .i64 n] w fun e w' => e = .returned (.string (strU (Lib.itoa n))) ∧ Below w.heap.size w w' := by
  have HIT : Hid (Lib.itoa n = Lib.decDigits n.toNat) := by
    show _ = _
    rw [← Lib.itoa_nonneg]; congr 1; omega
  have HN0 := Lib.hid h0
  have HN1 := Lib.hid h1
  clear h0 h1
  go_enter Tryd.func76, Tryd.ntmps76
  go_wp2
  go_loopg [0, 3] (n.toNat + 1) (fun m v s wr => ∃ (V : Int) (l : List UInt8) (S : ByteArray), m = (if l = [] then V.toNat + 1 else V.toNat) ∧ v = .int .i64 V ∧ s = .string S ∧ 0 ≤ V ∧ V ≤ 4611686018427387904 ∧ Hid (S = strU l) ∧ Hid (Dg n.toNat V.toNat l) ∧ Hid (Below w.heap.size w wr))
  case atStart => exact ⟨n, [], _, by simp, rfl, rfl, HN0.out, HN1.out, rfl, .inl ⟨rfl, rfl⟩, Below.refl _ _⟩
  case round =>
    obtain ⟨V, l, S, hgk, rfl, rfl, hV0, hV1, hS, hD, hB⟩ := hrel
    have HG := Lib.hid hgk; clear hgk
    have hlen := hD.out.len (by have := HN0.out; have := HN1.out; omega)
    have hsz : S.size = l.length := by rw [hS.out, strU_size]
    by_cases hl : l = []
    · have hS0 : S = ⟨#[]⟩ := by rw [hS.out, hl]; rfl
      subst hS0
      have HLV : Hid (l = [] ∨ 0 < V.toNat) := .inl hl
      have HGG : Hid (V.toNat < gk) := by have := HG.out; rw [if_pos hl] at this; show _ < _; omega
      have HD2 := Lib.hid (hD.out.step (HLV.out))
      obtain ⟨b, hb⟩ : ∃ b, UInt8.ofNat (48 + V.toNat % 10) = b := ⟨_, rfl⟩
      have HX : Hid (48 + V % 10 = (b.toNat : Int)) := by
        show _ = _
        rw [← hb, UInt8.toNat_ofNat']
        omega
      rw [hb] at HD2
      have hcv := run_one wr b _ HX.out
      obtain ⟨T1, hT1⟩ : ∃ T, strU [b] = T := ⟨_, rfl⟩
      have hT2 : T1.size = 1 := by rw [← hT1, strU_size]; rfl
      rw [hT1] at hcv
      have HS2 : Hid (T1 ++ ⟨#[]⟩ = strU (b :: l)) := by show _ = _; rw [← hT1, hS.out, strU_append]; rfl
      have HB2 : Hid (Below w.heap.size w (wr.alloc (.cells #[.int .u8 (48 + V % 10)] 5))) := hB.out.alloc hB.out.size _
      have HV : Hid (V.toNat / 10 = (V / 10).toNat) := by show _ = _; omega
      have hm0 : 0 ≤ V % 10 := by omega
      have hm1 : V % 10 < 10 := by omega
      clear hD hb hT1 HX
      go_wp2
      go_roundg ((V / 10).toNat)
      case measure => have := HGG.out; omega
      case rel => exact ⟨V / 10, b :: l, _, by simp, rfl, rfl, by omega, by omega, HS2, by rw [← HV.out]; exact HD2, HB2⟩
    · have hS0 : S.toList.isEmpty = false := by
        rw [ByteArray.toList_eq, hS.out]
        cases l with
        | nil => exact absurd rfl hl
        | cons _ _ => rfl
      have HGG : Hid (gk = V.toNat) := by have := HG.out; rw [if_neg hl] at this; exact this
      by_cases hv : 0 < V
      · have HLV : Hid (l = [] ∨ 0 < V.toNat) := .inr (by omega)
        have HD2 := Lib.hid (hD.out.step (HLV.out))
        obtain ⟨b, hb⟩ : ∃ b, UInt8.ofNat (48 + V.toNat % 10) = b := ⟨_, rfl⟩
        have HX : Hid (48 + V % 10 = (b.toNat : Int)) := by
          show _ = _
          rw [← hb, UInt8.toNat_ofNat']
          omega
        rw [hb] at HD2
        have hcv := run_one wr b _ HX.out
        obtain ⟨T1, hT1⟩ : ∃ T, strU [b] = T := ⟨_, rfl⟩
        have hT2 : T1.size = 1 := by rw [← hT1, strU_size]; rfl
        rw [hT1] at hcv
        have HS2 : Hid (T1 ++ S = strU (b :: l)) := by show _ = _; rw [← hT1, hS.out, strU_append]; rfl
        have HB2 : Hid (Below w.heap.size w (wr.alloc (.cells #[.int .u8 (48 + V % 10)] 5))) := hB.out.alloc hB.out.size _
        have HV : Hid (V.toNat / 10 = (V / 10).toNat) := by show _ = _; omega
        have hm0 : 0 ≤ V % 10 := by omega
        have hm1 : V % 10 < 10 := by omega
        clear hD hb hT1 HX
        go_wp2
        go_roundg ((V / 10).toNat)
        case measure => have := HGG.out; omega
        case rel => exact ⟨V / 10, b :: l, _, by simp, rfl, rfl, by omega, by omega, HS2, by rw [← HV.out]; exact HD2, HB2⟩
      · have HR : Hid (strU (Lib.itoa n) = S) := by show _ = _; rw [hS.out, HIT.out, hD.out.done hl (by omega)]
        clear hD hS
        go_wp2
        go_ret
        exact ⟨by rw [HR.out]; rfl, hB.out⟩
end Go.Proofs.YtflghlmikpfnpaaDoor.E
