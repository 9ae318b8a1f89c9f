/-
  VectorBytes: the walk of the law.
-/
import Derived.Test.YtadcmljcbmfcaaaVRTake
import Derived.Test.YtadcmljcbmfcaaaVBackW
namespace Go.Proofs.Ytadcmljcbmfcaaa.vectorBytes
open Go.RowKit Go.Proofs.Ytadcmljcbmfcaaa.V
set_option linter.unusedVariables false
set_option linter.unusedSimpArgs false

theorem lay_lt {b : List Nat} {v : List D} (hb : ∀ x ∈ b, x < 256) : ∀ x ∈ (layO b v).1, x < 256 := by
  intro x hx
  by_cases h : rightB v = true
  · rw [layO_yes h] at hx
    rcases List.mem_append.1 hx with hx | hx
    · exact hb x hx
    · exact encV_lt h x hx
  · rw [layO_no h] at hx; cases hx

set_option maxRecDepth 100000 in
set_option maxHeartbeats 3200000 in
theorem walk (A : Option Addr) (c : Nat) (b : List Nat) (x : Vc) (a : Int) (w : World) (hb : Wi.Row w w.heap.size A b) (hbl : b.length ≤ 140737488351232) (hcap : b.length ≤ c) (hc : c ≤ 9223372036854775807) (hx : x.ok w w.heap.size) (hfx : Fit x.l) (ha : -9223372036854775808 ≤ a ∧ a ≤ 9223372036854775807) : Calls Try.prog 7 #[.slice A b.length c, .slice x.A x.l.length x.c, .int .i64 a] w fun e w' => e = .returned (.bool true) ∧ Below w.heap.size w w' := by
  obtain ⟨B, cb, v⟩ := x
  simp only at *
  obtain ⟨bl, hbn⟩ : ∃ n, b.length = n := ⟨_, rfl⟩
  obtain ⟨vl, hvn⟩ : ∃ n, v.length = n := ⟨_, rfl⟩
  obtain ⟨O, hO⟩ : ∃ O, layO b v = O := ⟨_, rfl⟩
  obtain ⟨K, hK⟩ : ∃ K, takeO b a = K := ⟨_, rfl⟩
  have hOlt := lay_lt (v := v) hb.1
  rw [hO] at hOlt
  have HLT := Lib.hid hOlt
  have HO := Lib.hid hO
  have HK := Lib.hid hK
  rw [hbn] at hbl hcap ⊢
  rw [hvn]
  have HBN := Lib.hid hbn
  have HVN := Lib.hid hvn
  have HB := Lib.hid hb
  have HX := Lib.hid (And.intro hx hfx)
  have HBL := Lib.hid (And.intro hbl hcap)
  have HA := Lib.hid ha
  clear hbn hvn hb hx hfx hO hK hOlt ha
  go_enter Try.func7, Try.ntmps7
  go_wp2_with fail
  refine (shown_any _).mono ?_
  rintro e w2 ⟨rfl, hb2⟩
  have H2 := Lib.hid hb2
  clear hb2
  have HR : Hid (∀ W, Below w.heap.size w W → Wi.Row W W.heap.size A b ∧ Vc.ok ⟨B, cb, v⟩ W W.heap.size) := fun W hW => ⟨HB.out.up hW, HX.out.1.up hW⟩
  have hl := lay_any c cb (HR.out _ H2.out).1 (by rw [HBN.out]; exact HBL.out.1) (HR.out _ H2.out).2
  rw [HBN.out, HVN.out, HO.out] at hl
  have HL := Lib.hid hl
  clear hl
  go_wp2_with fail
  refine HL.out.mono ?_
  rintro e w3 ⟨⟨A3, c3, rfl, hown⟩, hb3⟩
  have hrow3 : Wi.Row w3 w3.heap.size A3 O.1 := by
    rcases hown with ⟨g, rfl, ho⟩ | ⟨_, _, he⟩
    · exact ho.row HLT.out ho.lt.2
    · rw [he]; exact Wi.Row.none_ _ _ _
  obtain ⟨X, z⟩ := O
  simp only at hrow3 ⊢
  obtain ⟨xl, hxl⟩ : ∃ n, X.length = n := ⟨_, rfl⟩
  rw [hxl]
  have HXL := Lib.hid hxl
  have H3 := Lib.hid (H2.out.trans (hb3.mono H2.out.size))
  have R3 := Lib.hid hrow3
  clear hown hrow3 hb3 HL hxl
  have hl := rlay_any c cb (HR.out _ H3.out).1 (by rw [HBN.out]; exact HBL.out.1) (HR.out _ H3.out).2 HX.out.2
  rw [HBN.out, HVN.out, HO.out] at hl
  have HL := Lib.hid hl
  clear hl
  go_wp2_with fail
  refine HL.out.mono ?_
  rintro e w4 ⟨⟨A4, c4, rfl, hrow4⟩, hb4⟩
  simp only at hrow4 ⊢
  rw [HXL.out]
  have H4 := Lib.hid (H3.out.trans (hb4.mono H3.out.size))
  have R3' := Lib.hid (R3.out.up hb4)
  have R4 := Lib.hid hrow4
  clear hrow4 hb4 HL R3
  have hl := take_any A c b a w4 (HR.out _ H4.out).1 (by rw [HBN.out]; exact HBL.out.2) (by rw [HBN.out]; have := HBL.out.1; omega) HA.out.1 HA.out.2
  rw [HBN.out, HK.out] at hl
  have HL := Lib.hid hl
  clear hl
  go_wp2_with fail
  refine HL.out.mono ?_
  rintro e w5 ⟨⟨A5, c5, rfl, ok5⟩, hb5⟩
  obtain ⟨u, p, g⟩ := K
  simp only at ok5 ⊢
  obtain ⟨ul, hul⟩ : ∃ n, u.length = n := ⟨_, rfl⟩
  rw [hul]
  have HUL := Lib.hid hul
  have H5 := Lib.hid (H4.out.trans (hb5.mono H4.out.size))
  have RX5 := Lib.hid (R3'.out.up hb5)
  have RY5 := Lib.hid (R4.out.up hb5)
  have OU5 := Lib.hid ok5
  clear ok5 hb5 HL R3' R4 hul
  have hl := rtake_any A c b a w5 (HR.out _ H5.out).1 (by rw [HBN.out]; exact HBL.out.2) (by rw [HBN.out]; have := HBL.out.1; omega) HA.out.1 HA.out.2
  rw [HBN.out, HK.out] at hl
  have HL := Lib.hid hl
  clear hl
  go_wp2_with fail
  refine HL.out.mono ?_
  rintro e w6 ⟨⟨A6, c6, rfl, ok6⟩, hb6⟩
  simp only at ok6 ⊢
  rw [HUL.out]
  have H6 := Lib.hid (H5.out.trans (hb6.mono H5.out.size))
  have hs1 := Wi.run_str A3 c3 X w6 _ (RX5.out.up hb6)
  have hs2 := Wi.run_str A4 c4 X w6 _ (RY5.out.up hb6)
  rw [HXL.out] at hs1 hs2
  have OU6 := OU5.out.up hb6
  have hsame := same_any c5 c6 OU6.1 OU6.2.2.2 ok6.1 ok6.2.2.2
  simp only [HUL.out, decide_true] at hsame
  have HSame := Lib.hid hsame
  obtain ⟨ST, hST⟩ : ∃ s, Wi.strB X = s := ⟨_, rfl⟩
  rw [hST] at hs1 hs2
  have hss : (ST.toList == ST.toList) = true := by simp
  have hzz : (z == z) = true := by simp
  have hpp : (p == p) = true := by simp
  have hgg : (g == g) = true := by simp
  clear ok6 hb6 OU6 hsame hST HL RX5 RY5 OU5
  go_wp2_with fail
  refine HSame.out.mono ?_
  rintro e w7 ⟨rfl, hb7⟩
  have H7 := Lib.hid (H6.out.trans (hb7.mono H6.out.size))
  clear hb7 HSame hs1 hs2
  go_wp2
  go_ret
  exact ⟨rfl, H7.out⟩
end Go.Proofs.Ytadcmljcbmfcaaa.vectorBytes
