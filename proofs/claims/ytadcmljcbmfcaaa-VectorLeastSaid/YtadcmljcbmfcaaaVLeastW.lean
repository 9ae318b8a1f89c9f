/-
  VectorLeast: the walk of the law.
-/
import Derived.Test.YtadcmljcbmfcaaaVLawMath
namespace Go.Proofs.Ytadcmljcbmfcaaa.vectorLeast
open Go.RowKit Go.Proofs.Ytadcmljcbmfcaaa.V
set_option linter.unusedVariables false
set_option linter.unusedSimpArgs false

set_option maxRecDepth 100000 in
set_option maxHeartbeats 6400000 in
theorem walk (x y z : Vc) (w : World) (hx : x.ok w w.heap.size) (hfx : Fit x.l) (hy : y.ok w w.heap.size) (hfy : Fit y.l) (hz : z.ok w w.heap.size) (hfz : Fit z.l) : Calls Try.prog 8 #[.slice x.A x.l.length x.c, .slice y.A y.l.length y.c, .slice z.A z.l.length z.c] w fun e w' => e = .returned (.bool true) ∧ Below w.heap.size w w' := by
  obtain ⟨A, ca, a⟩ := x
  obtain ⟨B, cb, b⟩ := y
  obtain ⟨C, cc, c⟩ := z
  simp only at *
  obtain ⟨la, hla⟩ : ∃ L, a.length = L := ⟨_, rfl⟩
  obtain ⟨lb, hlb⟩ : ∃ L, b.length = L := ⟨_, rfl⟩
  obtain ⟨lc, hlc⟩ : ∃ L, c.length = L := ⟨_, rfl⟩
  obtain ⟨Ra, hra⟩ : ∃ L, rightB a = L := ⟨_, rfl⟩
  obtain ⟨Rb, hrb⟩ : ∃ L, rightB b = L := ⟨_, rfl⟩
  obtain ⟨Rc, hrc⟩ : ∃ L, rightB c = L := ⟨_, rfl⟩
  have HRa := Lib.hid hra
  have HRb := Lib.hid hrb
  have HRc := Lib.hid hrc
  have Oa1 := Lib.hid hx
  have Ob1 := Lib.hid hy
  have Oc1 := Lib.hid hz
  have Na := Lib.hid hla.symm
  have Nb := Lib.hid hlb.symm
  have Nc := Lib.hid hlc.symm
  rw [hla, hlb, hlc]
  clear hla hlb hlc hra hrb hrc hx hy hz hfx hfy hfz
  go_enter Try.func8, Try.ntmps8
  go_wp2_with fail
  refine (shown_any _).mono ?_
  rintro e w2 ⟨rfl, hb2⟩
  have HH2 := Lib.hid hb2
  have Oa2 := Lib.hid (Oa1.out.up hb2)
  have Ob2 := Lib.hid (Ob1.out.up hb2)
  have Oc2 := Lib.hid (Oc1.out.up hb2)
  clear hb2 Oa1 Ob1 Oc1
  go_wp2_with fail
  rw [Na.out]
  refine (right_any ca Oa2.out.1 Oa2.out.2.2.2).mono ?_
  rintro e w3 ⟨rfl, hb3⟩
  rw [HRa.out, ← Na.out]
  have HH3 := Lib.hid (HH2.out.trans (hb3.mono HH2.out.size))
  have Oa3 := Lib.hid (Oa2.out.up hb3)
  have Ob3 := Lib.hid (Ob2.out.up hb3)
  have Oc3 := Lib.hid (Oc2.out.up hb3)
  clear hb3 HH2 Oa2 Ob2 Oc2
  cases Ra with
  | false =>
    go_wp2
    go_ret
    exact ⟨rfl, HH3.out⟩
  | true =>
    go_wp2_with fail
    rw [Nb.out]
    refine (right_any cb Ob3.out.1 Ob3.out.2.2.2).mono ?_
    rintro e w4 ⟨rfl, hb4⟩
    rw [HRb.out, ← Nb.out]
    have HH4 := Lib.hid (HH3.out.trans (hb4.mono HH3.out.size))
    have Oa4 := Lib.hid (Oa3.out.up hb4)
    have Ob4 := Lib.hid (Ob3.out.up hb4)
    have Oc4 := Lib.hid (Oc3.out.up hb4)
    clear hb4 HH3 Oa3 Ob3 Oc3
    cases Rb with
    | false =>
      go_wp2
      go_ret
      exact ⟨rfl, HH4.out⟩
    | true =>
      go_wp2_with fail
      rw [Nc.out]
      refine (right_any cc Oc4.out.1 Oc4.out.2.2.2).mono ?_
      rintro e w5 ⟨rfl, hb5⟩
      rw [HRc.out, ← Nc.out]
      have HH5 := Lib.hid (HH4.out.trans (hb5.mono HH4.out.size))
      have Oa5 := Lib.hid (Oa4.out.up hb5)
      have Ob5 := Lib.hid (Ob4.out.up hb5)
      have Oc5 := Lib.hid (Oc4.out.up hb5)
      clear hb5 HH4 Oa4 Ob4 Oc4
      cases Rc with
      | false =>
        go_wp2
        go_ret
        exact ⟨rfl, HH5.out⟩
      | true =>
        have hcall := meet_any (A := some ⟨w5.heap.size, 0, none⟩) 2 (rowL_two Oa5.out Ob5.out) (by simp)
        rw [meetO_two HRa.out HRb.out] at hcall
        simp only [Vc.v, List.length_cons, List.length_nil, Nat.zero_add, Nat.reduceAdd, ← Na.out, ← Nb.out] at hcall
        obtain ⟨m, hm⟩ : ∃ m, meetL (meetL a a) b = m := ⟨_, rfl⟩
        have hraa := meetL_right HRa.out HRa.out
        have hrm : rightB m = true := by rw [← hm]; exact meetL_right hraa HRb.out
        have HLM := Lib.hid (least_meet (c := c) HRa.out HRb.out HRc.out hrm (fun x => by rw [← hm, meet_at hraa HRb.out, meet_at HRa.out HRa.out]; omega))
        rw [hm] at hcall
        obtain ⟨lm, hlm⟩ : ∃ L, m.length = L := ⟨_, rfl⟩
        have Nm := Lib.hid hlm.symm
        have HCall := Lib.hid hcall
        obtain ⟨qa, hqa⟩ : ∃ q, leqB c a = q := ⟨_, rfl⟩
        obtain ⟨qb, hqb⟩ : ∃ q, leqB c b = q := ⟨_, rfl⟩
        rw [hqa, hqb] at HLM
        have HQa := Lib.hid hqa
        have HQb := Lib.hid hqb
        have HL1 := Lib.hid HLM.out.1
        have HL2 := Lib.hid HLM.out.2.1
        have HL3 := Lib.hid HLM.out.2.2
        clear hcall hm hraa hrm hlm hqa hqb HLM
        go_wp2_with fail
        refine HCall.out.mono ?_
        rintro e wm ⟨⟨Am, cm, rfl, okm⟩, hbm0⟩
        have hbm : Below w5.heap.size w5 wm := ((Below.refl _ w5).alloc (Nat.le_refl _) (.cells #[.slice A la ca, .slice B lb cb] 22)).trans (hbm0.mono (by simp))
        simp only at okm ⊢
        rw [← Nm.out]
        have HH6 := Lib.hid (HH5.out.trans (hbm.mono HH5.out.size))
        have Oa6 := Lib.hid (Oa5.out.up hbm)
        have Ob6 := Lib.hid (Ob5.out.up hbm)
        have Oc6 := Lib.hid (Oc5.out.up hbm)
        have Om6 := Lib.hid okm
        clear hbm0 hbm okm HCall Oa5 Ob5 Oc5 HH5
        go_wp2_with fail
        rw [Nm.out, Na.out]
        refine (leq_any Om6.out Oa6.out).mono ?_
        rintro e w7 ⟨rfl, hb7⟩
        rw [HL1.out, ← Nm.out, ← Na.out]
        have HH7 := Lib.hid (HH6.out.trans (hb7.mono HH6.out.size))
        have Oa7 := Lib.hid (Oa6.out.up hb7)
        have Ob7 := Lib.hid (Ob6.out.up hb7)
        have Oc7 := Lib.hid (Oc6.out.up hb7)
        have Om7 := Lib.hid (Om6.out.up hb7)
        clear hb7 HH6 Oa6 Ob6 Oc6 Om6
        go_wp2_with fail
        rw [Nm.out, Nb.out]
        refine (leq_any Om7.out Ob7.out).mono ?_
        rintro e w8 ⟨rfl, hb8⟩
        rw [HL2.out, ← Nm.out, ← Nb.out]
        have HH8 := Lib.hid (HH7.out.trans (hb8.mono HH7.out.size))
        have Oa8 := Lib.hid (Oa7.out.up hb8)
        have Ob8 := Lib.hid (Ob7.out.up hb8)
        have Oc8 := Lib.hid (Oc7.out.up hb8)
        have Om8 := Lib.hid (Om7.out.up hb8)
        clear hb8 HH7 Oa7 Ob7 Oc7 Om7
        go_wp2_with fail
        rw [Nc.out, Nm.out]
        refine (leq_any Oc8.out Om8.out).mono ?_
        rintro e w9 ⟨rfl, hb9⟩
        rw [HL3.out, ← Nc.out, ← Nm.out]
        have HH9 := Lib.hid (HH8.out.trans (hb9.mono HH8.out.size))
        have Oa9 := Lib.hid (Oa8.out.up hb9)
        have Ob9 := Lib.hid (Ob8.out.up hb9)
        have Oc9 := Lib.hid (Oc8.out.up hb9)
        have Om9 := Lib.hid (Om8.out.up hb9)
        clear hb9 HH8 Oa8 Ob8 Oc8 Om8
        go_wp2_with fail
        rw [Nc.out, Na.out]
        refine (leq_any Oc9.out Oa9.out).mono ?_
        rintro e w10 ⟨rfl, hb10⟩
        rw [HQa.out, ← Nc.out, ← Na.out]
        have HH10 := Lib.hid (HH9.out.trans (hb10.mono HH9.out.size))
        have Oa10 := Lib.hid (Oa9.out.up hb10)
        have Ob10 := Lib.hid (Ob9.out.up hb10)
        have Oc10 := Lib.hid (Oc9.out.up hb10)
        have Om10 := Lib.hid (Om9.out.up hb10)
        clear hb10 HH9 Oa9 Ob9 Oc9 Om9
        cases qa with
        | false =>
          have q0 : ((false && qb) != false) = false := by simp
          simp only [Bool.false_and, Bool.and_false] at *
          by_cases h64 : (joinV ordA a b).length ≤ 64
          · have hrj := join_right HRa.out HRb.out h64
            have hlj := least_join (c := c) HRa.out HRb.out HRc.out hrj (fun x => join_at HRa.out HRb.out x)
            have hje := joinO_yes HRa.out HRb.out h64
            obtain ⟨j, hj⟩ : ∃ j, joinV ordA a b = j := ⟨_, rfl⟩
            rw [hj] at hlj hje
            obtain ⟨pa, hpa⟩ : ∃ q, leqB a c = q := ⟨_, rfl⟩
            obtain ⟨pb, hpb⟩ : ∃ q, leqB b c = q := ⟨_, rfl⟩
            rw [hpa, hpb] at hlj
            obtain ⟨lj, hlen⟩ : ∃ L, j.length = L := ⟨_, rfl⟩
            have Nj := Lib.hid hlen.symm
            have HPa := Lib.hid hpa
            have HPb := Lib.hid hpb
            have HJE := Lib.hid hje
            have HJ1 := Lib.hid hlj.1
            have HJ2 := Lib.hid hlj.2.1
            have HJ3 := Lib.hid hlj.2.2
            clear hrj hlj hje hj hpa hpb hlen h64
            go_wp2_with fail
            rw [Na.out, Nb.out]
            refine (join_any Oa10.out Ob10.out).mono ?_
            rintro e w11 ⟨⟨Aj, cj, rfl, okj⟩, hb11⟩
            simp only [HJE.out] at okj ⊢
            rw [← Na.out, ← Nb.out, ← Nj.out]
            have HH11 := Lib.hid (HH10.out.trans (hb11.mono HH10.out.size))
            have Oa11 := Lib.hid (Oa10.out.up hb11)
            have Ob11 := Lib.hid (Ob10.out.up hb11)
            have Oc11 := Lib.hid (Oc10.out.up hb11)
            have Om11 := Lib.hid (Om10.out.up hb11)
            have Oj11 := Lib.hid okj
            clear hb11 HH10 Oa10 Ob10 Oc10 Om10 okj
            go_wp2_with fail
            rw [Na.out, Nj.out]
            refine (leq_any Oa11.out Oj11.out).mono ?_
            rintro e w12 ⟨rfl, hb12⟩
            rw [HJ1.out, ← Na.out, ← Nj.out]
            have HH12 := Lib.hid (HH11.out.trans (hb12.mono HH11.out.size))
            have Oa12 := Lib.hid (Oa11.out.up hb12)
            have Ob12 := Lib.hid (Ob11.out.up hb12)
            have Oc12 := Lib.hid (Oc11.out.up hb12)
            have Om12 := Lib.hid (Om11.out.up hb12)
            have Oj12 := Lib.hid (Oj11.out.up hb12)
            clear hb12 HH11 Oa11 Ob11 Oc11 Om11 Oj11
            go_wp2_with fail
            rw [Nb.out, Nj.out]
            refine (leq_any Ob12.out Oj12.out).mono ?_
            rintro e w13 ⟨rfl, hb13⟩
            rw [HJ2.out, ← Nb.out, ← Nj.out]
            have HH13 := Lib.hid (HH12.out.trans (hb13.mono HH12.out.size))
            have Oa13 := Lib.hid (Oa12.out.up hb13)
            have Ob13 := Lib.hid (Ob12.out.up hb13)
            have Oc13 := Lib.hid (Oc12.out.up hb13)
            have Om13 := Lib.hid (Om12.out.up hb13)
            have Oj13 := Lib.hid (Oj12.out.up hb13)
            clear hb13 HH12 Oa12 Ob12 Oc12 Om12 Oj12
            go_wp2_with fail
            rw [Nj.out, Nc.out]
            refine (leq_any Oj13.out Oc13.out).mono ?_
            rintro e w14 ⟨rfl, hb14⟩
            rw [HJ3.out, ← Nj.out, ← Nc.out]
            have HH14 := Lib.hid (HH13.out.trans (hb14.mono HH13.out.size))
            have Oa14 := Lib.hid (Oa13.out.up hb14)
            have Ob14 := Lib.hid (Ob13.out.up hb14)
            have Oc14 := Lib.hid (Oc13.out.up hb14)
            have Om14 := Lib.hid (Om13.out.up hb14)
            have Oj14 := Lib.hid (Oj13.out.up hb14)
            clear hb14 HH13 Oa13 Ob13 Oc13 Om13 Oj13
            go_wp2_with fail
            rw [Na.out, Nc.out]
            refine (leq_any Oa14.out Oc14.out).mono ?_
            rintro e w15 ⟨rfl, hb15⟩
            rw [HPa.out, ← Na.out, ← Nc.out]
            have HH15 := Lib.hid (HH14.out.trans (hb15.mono HH14.out.size))
            have Oa15 := Lib.hid (Oa14.out.up hb15)
            have Ob15 := Lib.hid (Ob14.out.up hb15)
            have Oc15 := Lib.hid (Oc14.out.up hb15)
            have Om15 := Lib.hid (Om14.out.up hb15)
            have Oj15 := Lib.hid (Oj14.out.up hb15)
            clear hb15 HH14 Oa14 Ob14 Oc14 Om14 Oj14
            cases pa with
            | false =>
              have e0 : ((false && pb) == false) = true := by simp
              simp only [Bool.false_and, Bool.and_false] at *
              go_wp2
              go_ret
              exact ⟨rfl, HH15.out⟩
            | true =>
              go_wp2_with fail
              rw [Nb.out, Nc.out]
              refine (leq_any Ob15.out Oc15.out).mono ?_
              rintro e w16 ⟨rfl, hb16⟩
              rw [HPb.out, ← Nb.out, ← Nc.out]
              have HH16 := Lib.hid (HH15.out.trans (hb16.mono HH15.out.size))
              have Oa16 := Lib.hid (Oa15.out.up hb16)
              have Ob16 := Lib.hid (Ob15.out.up hb16)
              have Oc16 := Lib.hid (Oc15.out.up hb16)
              have Om16 := Lib.hid (Om15.out.up hb16)
              have Oj16 := Lib.hid (Oj15.out.up hb16)
              clear hb16 HH15 Oa15 Ob15 Oc15 Om15 Oj15
              have e0 : ((true && pb) == pb) = true := by simp
              have e1 : (pb == pb) = true := by simp
              go_wp2
              go_ret
              exact ⟨rfl, HH16.out⟩
          · have HJE := Lib.hid (joinO_no HRa.out HRb.out h64)
            clear h64
            go_wp2_with fail
            rw [Na.out, Nb.out]
            refine (join_any Oa10.out Ob10.out).mono ?_
            rintro e w11 ⟨⟨Aj, cj, rfl, okj⟩, hb11⟩
            simp only [HJE.out] at okj ⊢
            rw [← Na.out, ← Nb.out]
            simp only [List.length_nil]
            have HH11 := Lib.hid (HH10.out.trans (hb11.mono HH10.out.size))
            have Oa11 := Lib.hid (Oa10.out.up hb11)
            have Ob11 := Lib.hid (Ob10.out.up hb11)
            have Oc11 := Lib.hid (Oc10.out.up hb11)
            have Om11 := Lib.hid (Om10.out.up hb11)
            have Oj11 := Lib.hid okj
            clear hb11 HH10 Oa10 Ob10 Oc10 Om10 okj
            go_wp2
            go_ret
            exact ⟨rfl, HH11.out⟩
        | true =>
          go_wp2_with fail
          rw [Nc.out, Nb.out]
          refine (leq_any Oc10.out Ob10.out).mono ?_
          rintro e w11 ⟨rfl, hb11⟩
          rw [HQb.out, ← Nc.out, ← Nb.out]
          have HH11 := Lib.hid (HH10.out.trans (hb11.mono HH10.out.size))
          have Oa11 := Lib.hid (Oa10.out.up hb11)
          have Ob11 := Lib.hid (Ob10.out.up hb11)
          have Oc11 := Lib.hid (Oc10.out.up hb11)
          have Om11 := Lib.hid (Om10.out.up hb11)
          clear hb11 HH10 Oa10 Ob10 Oc10 Om10
          have q0 : ((true && qb) != qb) = false := by simp
          have q1 : (qb != qb) = false := by simp
          by_cases h64 : (joinV ordA a b).length ≤ 64
          · have hrj := join_right HRa.out HRb.out h64
            have hlj := least_join (c := c) HRa.out HRb.out HRc.out hrj (fun x => join_at HRa.out HRb.out x)
            have hje := joinO_yes HRa.out HRb.out h64
            obtain ⟨j, hj⟩ : ∃ j, joinV ordA a b = j := ⟨_, rfl⟩
            rw [hj] at hlj hje
            obtain ⟨pa, hpa⟩ : ∃ q, leqB a c = q := ⟨_, rfl⟩
            obtain ⟨pb, hpb⟩ : ∃ q, leqB b c = q := ⟨_, rfl⟩
            rw [hpa, hpb] at hlj
            obtain ⟨lj, hlen⟩ : ∃ L, j.length = L := ⟨_, rfl⟩
            have Nj := Lib.hid hlen.symm
            have HPa := Lib.hid hpa
            have HPb := Lib.hid hpb
            have HJE := Lib.hid hje
            have HJ1 := Lib.hid hlj.1
            have HJ2 := Lib.hid hlj.2.1
            have HJ3 := Lib.hid hlj.2.2
            clear hrj hlj hje hj hpa hpb hlen h64
            go_wp2_with fail
            rw [Na.out, Nb.out]
            refine (join_any Oa11.out Ob11.out).mono ?_
            rintro e w12 ⟨⟨Aj, cj, rfl, okj⟩, hb12⟩
            simp only [HJE.out] at okj ⊢
            rw [← Na.out, ← Nb.out, ← Nj.out]
            have HH12 := Lib.hid (HH11.out.trans (hb12.mono HH11.out.size))
            have Oa12 := Lib.hid (Oa11.out.up hb12)
            have Ob12 := Lib.hid (Ob11.out.up hb12)
            have Oc12 := Lib.hid (Oc11.out.up hb12)
            have Om12 := Lib.hid (Om11.out.up hb12)
            have Oj12 := Lib.hid okj
            clear hb12 HH11 Oa11 Ob11 Oc11 Om11 okj
            go_wp2_with fail
            rw [Na.out, Nj.out]
            refine (leq_any Oa12.out Oj12.out).mono ?_
            rintro e w13 ⟨rfl, hb13⟩
            rw [HJ1.out, ← Na.out, ← Nj.out]
            have HH13 := Lib.hid (HH12.out.trans (hb13.mono HH12.out.size))
            have Oa13 := Lib.hid (Oa12.out.up hb13)
            have Ob13 := Lib.hid (Ob12.out.up hb13)
            have Oc13 := Lib.hid (Oc12.out.up hb13)
            have Om13 := Lib.hid (Om12.out.up hb13)
            have Oj13 := Lib.hid (Oj12.out.up hb13)
            clear hb13 HH12 Oa12 Ob12 Oc12 Om12 Oj12
            go_wp2_with fail
            rw [Nb.out, Nj.out]
            refine (leq_any Ob13.out Oj13.out).mono ?_
            rintro e w14 ⟨rfl, hb14⟩
            rw [HJ2.out, ← Nb.out, ← Nj.out]
            have HH14 := Lib.hid (HH13.out.trans (hb14.mono HH13.out.size))
            have Oa14 := Lib.hid (Oa13.out.up hb14)
            have Ob14 := Lib.hid (Ob13.out.up hb14)
            have Oc14 := Lib.hid (Oc13.out.up hb14)
            have Om14 := Lib.hid (Om13.out.up hb14)
            have Oj14 := Lib.hid (Oj13.out.up hb14)
            clear hb14 HH13 Oa13 Ob13 Oc13 Om13 Oj13
            go_wp2_with fail
            rw [Nj.out, Nc.out]
            refine (leq_any Oj14.out Oc14.out).mono ?_
            rintro e w15 ⟨rfl, hb15⟩
            rw [HJ3.out, ← Nj.out, ← Nc.out]
            have HH15 := Lib.hid (HH14.out.trans (hb15.mono HH14.out.size))
            have Oa15 := Lib.hid (Oa14.out.up hb15)
            have Ob15 := Lib.hid (Ob14.out.up hb15)
            have Oc15 := Lib.hid (Oc14.out.up hb15)
            have Om15 := Lib.hid (Om14.out.up hb15)
            have Oj15 := Lib.hid (Oj14.out.up hb15)
            clear hb15 HH14 Oa14 Ob14 Oc14 Om14 Oj14
            go_wp2_with fail
            rw [Na.out, Nc.out]
            refine (leq_any Oa15.out Oc15.out).mono ?_
            rintro e w16 ⟨rfl, hb16⟩
            rw [HPa.out, ← Na.out, ← Nc.out]
            have HH16 := Lib.hid (HH15.out.trans (hb16.mono HH15.out.size))
            have Oa16 := Lib.hid (Oa15.out.up hb16)
            have Ob16 := Lib.hid (Ob15.out.up hb16)
            have Oc16 := Lib.hid (Oc15.out.up hb16)
            have Om16 := Lib.hid (Om15.out.up hb16)
            have Oj16 := Lib.hid (Oj15.out.up hb16)
            clear hb16 HH15 Oa15 Ob15 Oc15 Om15 Oj15
            cases pa with
            | false =>
              have e0 : ((false && pb) == false) = true := by simp
              simp only [Bool.false_and, Bool.and_false] at *
              go_wp2
              go_ret
              exact ⟨rfl, HH16.out⟩
            | true =>
              go_wp2_with fail
              rw [Nb.out, Nc.out]
              refine (leq_any Ob16.out Oc16.out).mono ?_
              rintro e w17 ⟨rfl, hb17⟩
              rw [HPb.out, ← Nb.out, ← Nc.out]
              have HH17 := Lib.hid (HH16.out.trans (hb17.mono HH16.out.size))
              have Oa17 := Lib.hid (Oa16.out.up hb17)
              have Ob17 := Lib.hid (Ob16.out.up hb17)
              have Oc17 := Lib.hid (Oc16.out.up hb17)
              have Om17 := Lib.hid (Om16.out.up hb17)
              have Oj17 := Lib.hid (Oj16.out.up hb17)
              clear hb17 HH16 Oa16 Ob16 Oc16 Om16 Oj16
              have e0 : ((true && pb) == pb) = true := by simp
              have e1 : (pb == pb) = true := by simp
              go_wp2
              go_ret
              exact ⟨rfl, HH17.out⟩
          · have HJE := Lib.hid (joinO_no HRa.out HRb.out h64)
            clear h64
            go_wp2_with fail
            rw [Na.out, Nb.out]
            refine (join_any Oa11.out Ob11.out).mono ?_
            rintro e w12 ⟨⟨Aj, cj, rfl, okj⟩, hb12⟩
            simp only [HJE.out] at okj ⊢
            rw [← Na.out, ← Nb.out]
            simp only [List.length_nil]
            have HH12 := Lib.hid (HH11.out.trans (hb12.mono HH11.out.size))
            have Oa12 := Lib.hid (Oa11.out.up hb12)
            have Ob12 := Lib.hid (Ob11.out.up hb12)
            have Oc12 := Lib.hid (Oc11.out.up hb12)
            have Om12 := Lib.hid (Om11.out.up hb12)
            have Oj12 := Lib.hid okj
            clear hb12 HH11 Oa11 Ob11 Oc11 Om11 okj
            go_wp2
            go_ret
            exact ⟨rfl, HH12.out⟩
end Go.Proofs.Ytadcmljcbmfcaaa.vectorLeast
