/-
  VectorThree: the walk of the law.
-/
import Derived.Test.YtadcmljcbmfcaaaVLawMath
namespace Go.Proofs.Ytadcmljcbmfcaaa.vectorThree
open Go.RowKit Go.Proofs.Ytadcmljcbmfcaaa.V
set_option linter.unusedVariables false
set_option linter.unusedSimpArgs false

/-- Three vectors, put into a new slice. -/
theorem rowL_three {w : World} {x y z : Vc} (hx : x.ok w w.heap.size) (hy : y.ok w w.heap.size) (hz : z.ok w w.heap.size) : RowL (w.alloc (.cells #[x.v, y.v, z.v] 22)) (w.alloc (.cells #[x.v, y.v, z.v] 22)).heap.size (some ⟨w.heap.size, 0, none⟩) [x, y, z] := fun _ => by
  have hb : Below w.heap.size w (w.alloc (.cells #[x.v, y.v, z.v] 22)) := (Below.refl _ w).alloc (Nat.le_refl _) _
  refine ⟨w.heap.size, 0, rfl, by simp, fun j u hj => ?_⟩
  match j, hj with
  | 0, hj => simp at hj; subst hj; exact ⟨by simp [go_sem], hx.up hb⟩
  | 1, hj => simp at hj; subst hj; exact ⟨by simp [go_sem], hy.up hb⟩
  | 2, hj => simp at hj; subst hj; exact ⟨by simp [go_sem], hz.up hb⟩
set_option maxRecDepth 100000 in
set_option maxHeartbeats 6400000 in
theorem walk (x y z : Vc) (w : World) (hx : x.ok w w.heap.size) (hfx : Fit x.l) (hy : y.ok w w.heap.size) (hfy : Fit y.l) (hz : z.ok w w.heap.size) (hfz : Fit z.l) : Calls Try.prog 11 #[.slice x.A x.l.length x.c, .slice y.A y.l.length y.c, .slice z.A z.l.length z.c] w fun e w' => e = .returned (.bool true) ∧ Below w.heap.size w w' := by
  obtain ⟨A, ca, a⟩ := x
  obtain ⟨B, cb, b⟩ := y
  obtain ⟨C, cc, c⟩ := z
  simp only at *
  obtain ⟨la, hla⟩ : ∃ L, a.length = L := ⟨_, rfl⟩
  obtain ⟨lb, hlb⟩ : ∃ L, b.length = L := ⟨_, rfl⟩
  obtain ⟨lc, hlc⟩ : ∃ L, c.length = L := ⟨_, rfl⟩
  obtain ⟨Ra, hra⟩ : ∃ L, rightB a = L := ⟨_, rfl⟩
  obtain ⟨Rb, hrb⟩ : ∃ L, rightB b = L := ⟨_, rfl⟩
  obtain ⟨Rc, hrc⟩ : ∃ L, rightB c = L := ⟨_, rfl⟩
  have HRa := Lib.hid hra
  have HRb := Lib.hid hrb
  have HRc := Lib.hid hrc
  have Oa1 := Lib.hid hx
  have Ob1 := Lib.hid hy
  have Oc1 := Lib.hid hz
  have Na := Lib.hid hla.symm
  have Nb := Lib.hid hlb.symm
  have Nc := Lib.hid hlc.symm
  rw [hla, hlb, hlc]
  clear hla hlb hlc hra hrb hrc hx hy hz hfx hfy hfz
  go_enter Try.func11, Try.ntmps11
  go_wp2_with fail
  refine (shown_any _).mono ?_
  rintro e w2 ⟨rfl, hb2⟩
  have HH2 := Lib.hid hb2
  have Oa2 := Lib.hid (Oa1.out.up hb2)
  have Ob2 := Lib.hid (Ob1.out.up hb2)
  have Oc2 := Lib.hid (Oc1.out.up hb2)
  clear hb2 Oa1 Ob1 Oc1
  go_wp2_with fail
  rw [Na.out]
  refine (right_any ca Oa2.out.1 Oa2.out.2.2.2).mono ?_
  rintro e w3 ⟨rfl, hb3⟩
  rw [HRa.out, ← Na.out]
  have HH3 := Lib.hid (HH2.out.trans (hb3.mono HH2.out.size))
  have Oa3 := Lib.hid (Oa2.out.up hb3)
  have Ob3 := Lib.hid (Ob2.out.up hb3)
  have Oc3 := Lib.hid (Oc2.out.up hb3)
  clear hb3 HH2 Oa2 Ob2 Oc2
  cases Ra with
  | false =>
    go_wp2
    go_ret
    exact ⟨rfl, HH3.out⟩
  | true =>
    go_wp2_with fail
    rw [Nb.out]
    refine (right_any cb Ob3.out.1 Ob3.out.2.2.2).mono ?_
    rintro e w4 ⟨rfl, hb4⟩
    rw [HRb.out, ← Nb.out]
    have HH4 := Lib.hid (HH3.out.trans (hb4.mono HH3.out.size))
    have Oa4 := Lib.hid (Oa3.out.up hb4)
    have Ob4 := Lib.hid (Ob3.out.up hb4)
    have Oc4 := Lib.hid (Oc3.out.up hb4)
    clear hb4 HH3 Oa3 Ob3 Oc3
    cases Rb with
    | false =>
      go_wp2
      go_ret
      exact ⟨rfl, HH4.out⟩
    | true =>
      go_wp2_with fail
      rw [Nc.out]
      refine (right_any cc Oc4.out.1 Oc4.out.2.2.2).mono ?_
      rintro e w5 ⟨rfl, hb5⟩
      rw [HRc.out, ← Nc.out]
      have HH5 := Lib.hid (HH4.out.trans (hb5.mono HH4.out.size))
      have Oa5 := Lib.hid (Oa4.out.up hb5)
      have Ob5 := Lib.hid (Ob4.out.up hb5)
      have Oc5 := Lib.hid (Oc4.out.up hb5)
      clear hb5 HH4 Oa4 Ob4 Oc4
      cases Rc with
      | false =>
        go_wp2
        go_ret
        exact ⟨rfl, HH5.out⟩
      | true =>
        obtain ⟨m, hm⟩ : ∃ m, meetL (meetL (meetL a a) b) c = m := ⟨_, rfl⟩
        have HMM := Lib.hid hm
        have HME := Lib.hid (meet3_eq HRa.out HRb.out HRc.out)
        obtain ⟨lm, hlm⟩ : ∃ L, m.length = L := ⟨_, rfl⟩
        have Nm := Lib.hid hlm.symm
        clear hm hlm
        have hcall := meet_any (A := some ⟨w5.heap.size, 0, none⟩) 3 (rowL_three Oa5.out Ob5.out Oc5.out) (by simp)
        rw [meetO_three HRa.out HRb.out HRc.out] at hcall
        simp only [Vc.v, List.length_cons, List.length_nil, Nat.zero_add, Nat.reduceAdd, ← Na.out, ← Nb.out, ← Nc.out] at hcall
        rw [HMM.out] at hcall
        have HCall := Lib.hid hcall
        clear hcall
        go_wp2_with fail
        refine HCall.out.mono ?_
        rintro e wm ⟨⟨Am, cm, rfl, okm⟩, hb0⟩
        have hbm : Below w5.heap.size w5 wm := ((Below.refl _ w5).alloc (Nat.le_refl _) (.cells #[.slice A la ca, .slice B lb cb, .slice C lc cc] 22)).trans (hb0.mono (by simp))
        simp only at okm ⊢
        rw [← Nm.out]
        have HH6 := Lib.hid (HH5.out.trans (hbm.mono HH5.out.size))
        have Oa6 := Lib.hid (Oa5.out.up hbm)
        have Ob6 := Lib.hid (Ob5.out.up hbm)
        have Oc6 := Lib.hid (Oc5.out.up hbm)
        have Om6 := Lib.hid okm
        clear hb0 hbm okm HCall HH5 Oa5 Ob5 Oc5
        have hcall := meet_any (A := some ⟨wm.heap.size, 0, none⟩) 3 (rowL_three Oc6.out Ob6.out Oa6.out) (by simp)
        rw [meetO_three HRc.out HRb.out HRa.out, ← HME.out] at hcall
        simp only [Vc.v, List.length_cons, List.length_nil, Nat.zero_add, Nat.reduceAdd, ← Na.out, ← Nb.out, ← Nc.out] at hcall
        rw [HMM.out] at hcall
        have HCall := Lib.hid hcall
        clear hcall
        go_wp2_with fail
        refine HCall.out.mono ?_
        rintro e wn ⟨⟨An, cn, rfl, okn⟩, hb0⟩
        have hbm : Below wm.heap.size wm wn := ((Below.refl _ wm).alloc (Nat.le_refl _) (.cells #[.slice C lc cc, .slice B lb cb, .slice A la ca] 22)).trans (hb0.mono (by simp))
        simp only at okn ⊢
        rw [← Nm.out]
        have HH7 := Lib.hid (HH6.out.trans (hbm.mono HH6.out.size))
        have Oa7 := Lib.hid (Oa6.out.up hbm)
        have Ob7 := Lib.hid (Ob6.out.up hbm)
        have Oc7 := Lib.hid (Oc6.out.up hbm)
        have Om7 := Lib.hid (Om6.out.up hbm)
        have On7 := Lib.hid okn
        clear hb0 hbm okn HCall HH6 Oa6 Ob6 Oc6 Om6
        have hsame := same_any cm cn Om7.out.1 Om7.out.2.2.2 On7.out.1 On7.out.2.2.2
        simp only [← Nm.out, decide_true] at hsame
        have HSame := Lib.hid hsame
        clear hsame
        go_wp2_with fail
        refine (HSame.out).mono ?_
        rintro e w8 ⟨rfl, hb8⟩
        clear HSame
        have HH8 := Lib.hid (HH7.out.trans (hb8.mono HH7.out.size))
        have Oa8 := Lib.hid (Oa7.out.up hb8)
        have Ob8 := Lib.hid (Ob7.out.up hb8)
        have Oc8 := Lib.hid (Oc7.out.up hb8)
        have Om8 := Lib.hid (Om7.out.up hb8)
        have On8 := Lib.hid (On7.out.up hb8)
        clear hb8 HH7 Oa7 Ob7 Oc7 Om7 On7
        by_cases h1 : (joinV ordA a b).length ≤ 64
        · have HJ1 := Lib.hid (joinO_yes HRa.out HRb.out h1)
          obtain ⟨x, hx⟩ : ∃ x, joinV ordA a b = x := ⟨_, rfl⟩
          have HX := Lib.hid hx
          rw [hx] at HJ1
          obtain ⟨lx, hlx⟩ : ∃ L, x.length = L := ⟨_, rfl⟩
          have Nx := Lib.hid hlx.symm
          have H1 := Lib.hid h1
          clear hx hlx h1
          go_wp2_with fail
          rw [Na.out, Nb.out]
          refine (join_any Oa8.out Ob8.out).mono ?_
          rintro e w9 ⟨⟨Ax, cx, rfl, okx⟩, hb9⟩
          simp only [HJ1.out] at okx ⊢
          rw [← Na.out, ← Nb.out, ← Nx.out]
          have HH9 := Lib.hid (HH8.out.trans (hb9.mono HH8.out.size))
          have Oa9 := Lib.hid (Oa8.out.up hb9)
          have Ob9 := Lib.hid (Ob8.out.up hb9)
          have Oc9 := Lib.hid (Oc8.out.up hb9)
          have Ox9 := Lib.hid okx
          clear hb9 HH8 Oa8 Ob8 Oc8 okx
          by_cases h2 : (joinV ordA b c).length ≤ 64
          · have HJ2 := Lib.hid (joinO_yes HRb.out HRc.out h2)
            obtain ⟨y, hy⟩ : ∃ y, joinV ordA b c = y := ⟨_, rfl⟩
            have HAs := Lib.hid (join_assoc3 HRa.out HRb.out HRc.out H1.out h2)
            rw [hy] at HJ2 HAs
            rw [HX.out] at HAs
            obtain ⟨ly, hly⟩ : ∃ L, y.length = L := ⟨_, rfl⟩
            have Ny := Lib.hid hly.symm
            clear hy hly h2
            go_wp2_with fail
            rw [Nb.out, Nc.out]
            refine (join_any Ob9.out Oc9.out).mono ?_
            rintro e w10 ⟨⟨Ay, cy, rfl, oky⟩, hb10⟩
            simp only [HJ2.out] at oky ⊢
            rw [← Nb.out, ← Nc.out, ← Ny.out]
            have HH10 := Lib.hid (HH9.out.trans (hb10.mono HH9.out.size))
            have Oa10 := Lib.hid (Oa9.out.up hb10)
            have Ob10 := Lib.hid (Ob9.out.up hb10)
            have Oc10 := Lib.hid (Oc9.out.up hb10)
            have Ox10 := Lib.hid (Ox9.out.up hb10)
            have Oy10 := Lib.hid oky
            clear hb10 HH9 Oa9 Ob9 Oc9 Ox9 oky
            obtain ⟨O, hO⟩ : ∃ O, joinO a y = O := ⟨_, rfl⟩
            obtain ⟨p, ep⟩ := O
            rw [hO] at HAs
            have HJ4 := Lib.hid hO
            obtain ⟨lp, hlp⟩ : ∃ L, p.length = L := ⟨_, rfl⟩
            have Np := Lib.hid hlp.symm
            have Nq := Lib.hid hlp.symm
            have hee : (ep == ep) = true := by simp
            clear hO hlp
            go_wp2_with fail
            rw [Nx.out, Nc.out]
            refine (join_any Ox10.out Oc10.out).mono ?_
            rintro e w11 ⟨⟨Ap, cp, rfl, okp⟩, hb11⟩
            simp only [HAs.out] at okp ⊢
            rw [← Nx.out, ← Nc.out, ← Np.out]
            have HH11 := Lib.hid (HH10.out.trans (hb11.mono HH10.out.size))
            have Oa11 := Lib.hid (Oa10.out.up hb11)
            have Ob11 := Lib.hid (Ob10.out.up hb11)
            have Oc11 := Lib.hid (Oc10.out.up hb11)
            have Ox11 := Lib.hid (Ox10.out.up hb11)
            have Oy11 := Lib.hid (Oy10.out.up hb11)
            have Op11 := Lib.hid okp
            clear hb11 HH10 Oa10 Ob10 Oc10 Ox10 Oy10 okp
            go_wp2_with fail
            rw [Na.out, Ny.out]
            refine (join_any Oa11.out Oy11.out).mono ?_
            rintro e w12 ⟨⟨Aq, cq, rfl, okq⟩, hb12⟩
            simp only [HJ4.out] at okq ⊢
            rw [← Na.out, ← Ny.out, ← Nq.out]
            have HH12 := Lib.hid (HH11.out.trans (hb12.mono HH11.out.size))
            have Oa12 := Lib.hid (Oa11.out.up hb12)
            have Ob12 := Lib.hid (Ob11.out.up hb12)
            have Oc12 := Lib.hid (Oc11.out.up hb12)
            have Ox12 := Lib.hid (Ox11.out.up hb12)
            have Oy12 := Lib.hid (Oy11.out.up hb12)
            have Op12 := Lib.hid (Op11.out.up hb12)
            have Oq12 := Lib.hid okq
            clear hb12 HH11 Oa11 Ob11 Oc11 Ox11 Oy11 Op11 okq
            have hsame := same_any cp cq Op12.out.1 Op12.out.2.2.2 Oq12.out.1 Oq12.out.2.2.2
            simp only [← Np.out, decide_true] at hsame
            have HSame := Lib.hid hsame
            clear hsame
            go_wp2_with fail
            refine (HSame.out).mono ?_
            rintro e w13 ⟨rfl, hb13⟩
            clear HSame
            have HH13 := Lib.hid (HH12.out.trans (hb13.mono HH12.out.size))
            have Oa13 := Lib.hid (Oa12.out.up hb13)
            have Ob13 := Lib.hid (Ob12.out.up hb13)
            have Oc13 := Lib.hid (Oc12.out.up hb13)
            have Ox13 := Lib.hid (Ox12.out.up hb13)
            have Oy13 := Lib.hid (Oy12.out.up hb13)
            have Op13 := Lib.hid (Op12.out.up hb13)
            have Oq13 := Lib.hid (Oq12.out.up hb13)
            clear hb13 HH12 Oa12 Ob12 Oc12 Ox12 Oy12 Op12 Oq12
            go_wp2
            go_ret
            exact ⟨rfl, HH13.out⟩
          · have HJ2 := Lib.hid (joinO_no HRb.out HRc.out h2)
            have Ny : Hid (0 = ([] : List D).length) := rfl
            clear h2
            go_wp2_with fail
            rw [Nb.out, Nc.out]
            refine (join_any Ob9.out Oc9.out).mono ?_
            rintro e w10 ⟨⟨Ay, cy, rfl, oky⟩, hb10⟩
            simp only [HJ2.out] at oky ⊢
            rw [← Nb.out, ← Nc.out, ← Ny.out]
            have HH10 := Lib.hid (HH9.out.trans (hb10.mono HH9.out.size))
            have Oa10 := Lib.hid (Oa9.out.up hb10)
            have Ob10 := Lib.hid (Ob9.out.up hb10)
            have Oc10 := Lib.hid (Oc9.out.up hb10)
            have Ox10 := Lib.hid (Ox9.out.up hb10)
            have Oy10 := Lib.hid oky
            clear hb10 HH9 Oa9 Ob9 Oc9 Ox9 oky
            go_wp2
            go_ret
            exact ⟨rfl, HH10.out⟩
        · have HJ1 := Lib.hid (joinO_no HRa.out HRb.out h1)
          have Nx : Hid (0 = ([] : List D).length) := rfl
          clear h1
          go_wp2_with fail
          rw [Na.out, Nb.out]
          refine (join_any Oa8.out Ob8.out).mono ?_
          rintro e w9 ⟨⟨Ax, cx, rfl, okx⟩, hb9⟩
          simp only [HJ1.out] at okx ⊢
          rw [← Na.out, ← Nb.out, ← Nx.out]
          have HH9 := Lib.hid (HH8.out.trans (hb9.mono HH8.out.size))
          have Oa9 := Lib.hid (Oa8.out.up hb9)
          have Ob9 := Lib.hid (Ob8.out.up hb9)
          have Oc9 := Lib.hid (Oc8.out.up hb9)
          have Ox9 := Lib.hid okx
          clear hb9 HH8 Oa8 Ob8 Oc8 okx
          obtain ⟨O2, hO2⟩ : ∃ O, joinO b c = O := ⟨_, rfl⟩
          obtain ⟨y, ey⟩ := O2
          have HJ2 := Lib.hid hO2
          obtain ⟨ly, hly⟩ : ∃ L, y.length = L := ⟨_, rfl⟩
          have Ny := Lib.hid hly.symm
          clear hO2 hly
          go_wp2_with fail
          rw [Nb.out, Nc.out]
          refine (join_any Ob9.out Oc9.out).mono ?_
          rintro e w10 ⟨⟨Ay, cy, rfl, oky⟩, hb10⟩
          simp only [HJ2.out] at oky ⊢
          rw [← Nb.out, ← Nc.out, ← Ny.out]
          have HH10 := Lib.hid (HH9.out.trans (hb10.mono HH9.out.size))
          have Oa10 := Lib.hid (Oa9.out.up hb10)
          have Ob10 := Lib.hid (Ob9.out.up hb10)
          have Oc10 := Lib.hid (Oc9.out.up hb10)
          have Ox10 := Lib.hid (Ox9.out.up hb10)
          have Oy10 := Lib.hid oky
          clear hb10 HH9 Oa9 Ob9 Oc9 Ox9 oky
          go_wp2
          go_ret
          exact ⟨rfl, HH10.out⟩
end Go.Proofs.Ytadcmljcbmfcaaa.vectorThree
