/-
  VectorJoins: the walk of the law.
-/
import Derived.Test.YtadcmljcbmfcaaaVRLack
namespace Go.Proofs.Ytadcmljcbmfcaaa.vectorJoins
open Go.RowKit Go.Proofs.Ytadcmljcbmfcaaa.V
set_option linter.unusedVariables false
set_option linter.unusedSimpArgs false

set_option maxRecDepth 100000 in
set_option maxHeartbeats 3200000 in
theorem walk (x y : Vc) (w : World) (hx : x.ok w w.heap.size) (hfx : Fit x.l) (hy : y.ok w w.heap.size) (hfy : Fit y.l) : Calls Try.prog 5 #[.slice x.A x.l.length x.c, .slice y.A y.l.length y.c] w fun e w' => e = .returned (.bool true) ∧ Below w.heap.size w w' := by
  obtain ⟨A, c, a⟩ := x
  obtain ⟨A2, c2, b⟩ := y
  simp only at *
  obtain ⟨L, hL⟩ : ∃ L, a.length = L := ⟨_, rfl⟩
  obtain ⟨M, hM⟩ : ∃ L, b.length = L := ⟨_, rfl⟩
  obtain ⟨O, hO⟩ : ∃ O, joinO a b = O := ⟨_, rfl⟩
  obtain ⟨S, hS⟩ : ∃ O, lackO a b = O := ⟨_, rfl⟩
  obtain ⟨Q, hQ⟩ : ∃ O, leqB a b = O := ⟨_, rfl⟩
  have HO := Lib.hid hO
  have HS := Lib.hid hS
  have HQ := Lib.hid hQ
  have HFit := Lib.hid (And.intro hfx hfy)
  have HXY := Lib.hid (And.intro hx hy)
  have HN := Lib.hid (And.intro hL.symm hM.symm)
  rw [hL, hM]
  clear hO hS hQ hfx hfy hx hy hL hM
  go_enter Try.func5, Try.ntmps5
  go_wp2_with fail
  refine (shown_any _).mono ?_
  rintro e w2 ⟨rfl, hb2⟩
  have H2 := Lib.hid hb2
  have OX2 := Lib.hid (HXY.out.1.up hb2)
  have OY2 := Lib.hid (HXY.out.2.up hb2)
  clear hb2
  go_wp2_with fail
  rw [HN.out.1, HN.out.2]
  refine (join_any OX2.out OY2.out).mono ?_
  rintro e w3 ⟨⟨A3, c3, rfl, ok3⟩, hb3⟩
  simp only [HO.out] at ok3 ⊢
  obtain ⟨r, z⟩ := O
  simp only at ok3 ⊢
  have H3 := Lib.hid (H2.out.trans (hb3.mono H2.out.size))
  have OX3 := Lib.hid (OX2.out.up hb3)
  have OY3 := Lib.hid (OY2.out.up hb3)
  have OK3 := Lib.hid ok3
  obtain ⟨rn, hrn⟩ : ∃ k, r.length = k := ⟨_, rfl⟩
  rw [hrn]
  have HRN := Lib.hid hrn
  clear hb3 ok3 hrn OX2 OY2
  go_wp2_with fail
  refine (rjoin_any c c2 OX3.out OX3.out.2.2.2 HFit.out.1 OY3.out OY3.out.2.2.2 HFit.out.2).mono ?_
  rintro e w4 ⟨⟨A4, c4, rfl, ok4⟩, hb4⟩
  simp only [HO.out] at ok4 ⊢
  rw [HRN.out]
  have H4 := Lib.hid (H3.out.trans (hb4.mono H3.out.size))
  have OX4 := Lib.hid (OX3.out.up hb4)
  have OY4 := Lib.hid (OY3.out.up hb4)
  have OK3' := Lib.hid (OK3.out.up hb4)
  have OK4 := Lib.hid ok4
  clear hb4 ok4 OX3 OY3 OK3
  go_wp2_with fail
  refine (lack_any OX4.out OY4.out).mono ?_
  rintro e w5 ⟨⟨A5, c5, rfl, ok5⟩, hb5⟩
  simp only [HS.out] at ok5 ⊢
  obtain ⟨q, z2⟩ := S
  simp only at ok5 ⊢
  obtain ⟨qn, hqn⟩ : ∃ k, q.length = k := ⟨_, rfl⟩
  rw [hqn]
  have HQN := Lib.hid hqn
  have H5 := Lib.hid (H4.out.trans (hb5.mono H4.out.size))
  have OX5 := Lib.hid (OX4.out.up hb5)
  have OY5 := Lib.hid (OY4.out.up hb5)
  have OK5 := Lib.hid (OK3'.out.up hb5)
  have OJ5 := Lib.hid (OK4.out.up hb5)
  have OS5 := Lib.hid ok5
  clear hb5 ok5 hqn OX4 OY4 OK3' OK4
  go_wp2_with fail
  refine (rlack_any c c2 OX5.out OX5.out.2.2.2 HFit.out.1 OY5.out OY5.out.2.2.2 HFit.out.2).mono ?_
  rintro e w6 ⟨⟨A6, c6, rfl, ok6⟩, hb6⟩
  simp only [HS.out] at ok6 ⊢
  rw [HQN.out]
  have H6 := Lib.hid (H5.out.trans (hb6.mono H5.out.size))
  have OX6 := Lib.hid (OX5.out.up hb6)
  have OY6 := Lib.hid (OY5.out.up hb6)
  have OK6 := OK5.out.up hb6
  have OJ6 := OJ5.out.up hb6
  have OS6 := Lib.hid (And.intro (OS5.out.1.up hb6) OS5.out.2)
  have OT6 := Lib.hid ok6
  have hzz : (z == z) = true := by simp
  have hzz2 : (z2 == z2) = true := by simp
  have hqq : (Q == Q) = true := by simp
  have hsame := same_any c3 c4 OK6.1 OK6.2.2.2 OJ6.1 OJ6.2.2.2
  simp only [HRN.out, decide_true] at hsame
  have HSame := Lib.hid hsame
  clear hb6 ok6 hsame OK6 OJ6 OK5 OJ5 OX5 OY5 OS5
  go_wp2_with fail
  refine HSame.out.mono ?_
  rintro e w7 ⟨rfl, hb7⟩
  have H7 := Lib.hid (H6.out.trans (hb7.mono H6.out.size))
  have OX7 := Lib.hid (OX6.out.up hb7)
  have OY7 := Lib.hid (OY6.out.up hb7)
  have hsame := sameS_any c5 c6 (OS6.out.1.up hb7) (Nat.le_trans OS6.out.2 (by decide)) (OT6.out.1.up hb7) (Nat.le_trans OT6.out.2 (by decide))
  simp only [HQN.out, decide_true] at hsame
  have HSame2 := Lib.hid hsame
  clear hb7 HSame hsame OX6 OY6 OS6 OT6
  go_wp2_with fail
  refine HSame2.out.mono ?_
  rintro e w8 ⟨rfl, hb8⟩
  have H8 := Lib.hid (H7.out.trans (hb8.mono H7.out.size))
  have OX8 := Lib.hid (OX7.out.up hb8)
  have OY8 := Lib.hid (OY7.out.up hb8)
  clear hb8 HSame2 OX7 OY7
  go_wp2_with fail
  refine (leq_any OX8.out OY8.out).mono ?_
  rintro e w9 ⟨rfl, hb9⟩
  simp only [HQ.out]
  have H9 := Lib.hid (H8.out.trans (hb9.mono H8.out.size))
  have OX9 := Lib.hid (OX8.out.up hb9)
  have OY9 := Lib.hid (OY8.out.up hb9)
  clear hb9 OX8 OY8
  go_wp2_with fail
  refine (rleq_any c c2 OX9.out.1 OX9.out.2.2.2 HFit.out.1 OY9.out.1 OY9.out.2.2.2 HFit.out.2).mono ?_
  rintro e w10 ⟨rfl, hb10⟩
  simp only [HQ.out]
  have H10 := Lib.hid (H9.out.trans (hb10.mono H9.out.size))
  clear hb10 OX9 OY9
  go_wp2
  go_ret
  exact ⟨rfl, H10.out⟩
end Go.Proofs.Ytadcmljcbmfcaaa.vectorJoins
