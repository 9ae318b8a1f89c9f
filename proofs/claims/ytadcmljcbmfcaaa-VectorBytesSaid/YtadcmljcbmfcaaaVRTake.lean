/-
  The reference's Take.
-/
import Derived.Test.YtadcmljcbmfcaaaVRLay
import Derived.Test.YtadcmljcbmfcaaaVTake
namespace Go.Proofs.Ytadcmljcbmfcaaa.V
open Go.RowKit
set_option linter.unusedVariables false
set_option linter.unusedSimpArgs false

theorem takeT_small {l : List Nat} {a : Int} {t : List Nat} {p : Nat} (h : Wi.M.takeT l a 24 = some (t, p)) : t.length ≤ 9223372036854775807 := by
  unfold Wi.M.takeT at h
  split at h
  · cases h
  · split at h
    · rename_i n p0 _ hc
      injection h with h
      have := congrArg Prod.fst h
      simp only at this
      rw [← this, List.length_take]
      omega
    · cases h
set_option maxRecDepth 100000 in
set_option maxHeartbeats 3200000 in
theorem rtake_any (A : Option Addr) (c : Nat) (l : List Nat) (a : Int) (w : World) (hr : Wi.Row w w.heap.size A l) (hcap : l.length ≤ c) (hl : l.length ≤ 281474976710656) (ha1 : -9223372036854775808 ≤ a) (ha2 : a ≤ 9223372036854775807) :
    Calls Try.prog 36 #[.slice A l.length c, .int .i64 a] w fun e w' => TakR e w' (takeO l a) ∧ Below w.heap.size w w' := by
  have hnum := Wi.rtakeNumber_any A c l a w hr hl ha1 ha2
  obtain ⟨T, hT⟩ : ∃ T, Wi.M.takeN l a = T := ⟨_, rfl⟩
  obtain ⟨O, hO⟩ : ∃ O, takeO l a = O := ⟨_, rfl⟩
  rw [hO]
  rw [hT] at hnum
  obtain ⟨ln, hln⟩ : ∃ n, l.length = n := ⟨_, rfl⟩
  rw [hln] at hnum hcap hl ⊢
  have HT := Lib.hid hT
  have HO := Lib.hid hO
  have HNum := Lib.hid hnum
  have HR := Lib.hid hr
  have HLN := Lib.hid hln
  have HCl := Lib.hid (And.intro hcap hl)
  clear hnum hT hO hr hcap hl hln
  go_enter Try.func36, Try.ntmps36
  go_wp2_with fail
  refine HNum.out.mono ?_
  rintro e w2 ⟨rfl, hb2⟩
  have HB2 := Lib.hid hb2
  clear hb2 HNum
  cases T with
  | none =>
    have HOO : Hid (O = ([], 0, 70)) := by show O = _; rw [← HO.out]; unfold takeO takeV; rw [HT.out]
    simp only [Wi.numR]
    go_wp2
    go_ret3
    exact ⟨tak_no HOO.out rfl, HB2.out⟩
  | some np =>
    obtain ⟨n, p⟩ := np
    have hpl := takeN_len HR.out.1 HT.out
    simp only [Wi.numR]
    by_cases h64 : n ≤ 64
    · have HV : Hid (O = match (match takes l n p with | none => none | some r => if rightB r.1 = true then some r else none : Option (List D × Nat)) with | none => ([], 0, 70) | some (v, q) => (v, (q : Int), 0)) := by
        show O = _
        rw [← HO.out]; unfold takeO takeV; rw [HT.out]; simp only; rw [if_pos h64]; first | done | rfl
      have hg : ¬ (64 : Int) < (n : Int) := by omega
      have hwn : IntKind.wrap .i64 (n : Int) = (n : Int) := by rw [IntKind.wrap_i64]; omega
      have hwn2 : wrap64 (n : Int) = (n : Int) := by unfold wrap64; omega
      have HPL := Lib.hid hpl
      obtain ⟨Q, hQ⟩ : ∃ Q, takes l n p = Q := ⟨_, rfl⟩
      rw [hQ] at HV
      have HQ := Lib.hid hQ
      clear hQ hpl
      go_wp2
      go_loopg [8, 10, 11] n (fun k e s i wr => ∃ (j q ol : Nat) (A3 : Option Addr) (c3 : Nat) (o : List D), j ≤ n ∧ k = n - j ∧ i = .int .i64 j ∧ e = .int .i64 q ∧ s = .slice A3 ol c3 ∧ Hid (Fit o) ∧ Hid (o.length = ol ∧ ol = j ∧ q ≤ l.length ∧ (takes l (n - j) q).map (fun r => (o ++ r.1, r.2)) = Q) ∧ Hid (GrD wr w.heap.size A3 c3 o) ∧ Hid (Below w.heap.size w wr))
      case atStart => exact ⟨0, p, 0, none, 0, [], by omega, by omega, rfl, rfl, rfl, (by simp [Fit] : Fit []), ⟨rfl, rfl, HPL.out, by rw [← HQ.out, Nat.sub_zero]; cases takes l n p <;> simp⟩, GrD.nil _ _, HB2⟩
      case round =>
        obtain ⟨j, q, ol, A3, c3, o, hj, hgk, rfl, rfl, rfl, hft, ho, hgr, hbw⟩ := hrel
        have HGK := Lib.hid hgk; clear hgk
        by_cases hlt : j < n
        · have hltI : (j : Int) < (n : Int) := by omega
          have hq64 : (q : Int) ≤ 281474976710656 := by have := ho.out.2.2.1; have := HCl.out.2; have := HLN.out; omega
          have hcall := Wi.rtakeText_any A c l (q : Int) 24 wr ((HR.out.below hbw.out).more hbw.out.size) (by rw [HLN.out]; exact HCl.out.1) (by rw [HLN.out]; exact HCl.out.2) (by omega) (by omega) (by omega) (by omega)
          obtain ⟨Z, hZ⟩ : ∃ Z, Wi.M.takeT l (q : Int) 24 = Z := ⟨_, rfl⟩
          rw [hZ, HLN.out] at hcall
          obtain ⟨Y, hY⟩ : ∃ Y, takeD l (q : Int) = Y := ⟨_, rfl⟩
          have hstep : takes l (n - j) q = nextT l (n - (j + 1)) Y := by rw [show n - j = (n - (j + 1)) + 1 by omega, takes_succ, hY]
          have HStep := Lib.hid hstep
          have HZ := Lib.hid hZ
          have HY := Lib.hid hY
          have HCall := Lib.hid hcall
          clear hcall hZ hstep hY
          go_wp2_with fail
          refine HCall.out.mono ?_
          rintro e w5 ⟨rfl, hb5⟩
          have HB5 := Lib.hid (hbw.out.trans (hb5.mono hbw.out.size))
          have HG5 := Lib.hid (hgr.out.below hb5 (Nat.le_refl _))
          clear hb5 HCall
          cases Z with
          | none =>
            have hYn : Y = none := by rw [← HY.out]; unfold takeD; rw [HZ.out]
            subst hYn
            have HQN : Hid (Q = none) := by
              show Q = none
              rw [← ho.out.2.2.2, HStep.out]; rfl
            have HOO : Hid (O = ([], 0, 70)) := by show O = _; rw [HV.out, HQN.out]
            simp only [Wi.txtR]
            have hnum := Wi.rtakeNumber_any A c l 0 w5 ((HR.out.below HB5.out).more HB5.out.size) (by rw [HLN.out]; exact HCl.out.2) (by omega) (by omega)
            obtain ⟨X, hX⟩ : ∃ X, Wi.M.takeN l 0 = X := ⟨_, rfl⟩
            rw [hX, HLN.out] at hnum
            have HNum := Lib.hid hnum
            clear hnum hX
            go_wp2_with fail
            refine HNum.out.mono ?_
            rintro e w6 ⟨rfl, hb6⟩
            have HB6 := Lib.hid (HB5.out.trans (hb6.mono HB5.out.size))
            clear hb6 HNum
            cases X with
            | none =>
              simp only [Wi.numR]
              go_wp2
              go_ret3
              exact ⟨tak_no HOO.out rfl, HB6.out⟩
            | some xy =>
              obtain ⟨x1, x2⟩ := xy
              simp only [Wi.numR]
              obtain ⟨X1, hX1⟩ : ∃ X : Int, (x1 : Int) = X := ⟨_, rfl⟩
              rw [hX1]
              clear hX1
              go_wp2
              go_ret3
              exact ⟨tak_no HOO.out rfl, HB6.out⟩
          | some tp =>
            obtain ⟨t, p1⟩ := tp
            have hp1 := takeT_len HZ.out
            simp only [Wi.txtR]
            have hnum := Wi.rtakeNumber_any A c l (p1 : Int) w5 ((HR.out.below HB5.out).more HB5.out.size) (by rw [HLN.out]; exact HCl.out.2) (by omega) (by have := HCl.out.2; have := HLN.out; omega)
            obtain ⟨X, hX⟩ : ∃ X, Wi.M.takeN l (p1 : Int) = X := ⟨_, rfl⟩
            rw [hX, HLN.out] at hnum
            have HNum := Lib.hid hnum
            have HXe := Lib.hid hX
            clear hnum hX
            go_wp2_with fail
            refine HNum.out.mono ?_
            rintro e w6 ⟨rfl, hb6⟩
            have HB6 := Lib.hid (HB5.out.trans (hb6.mono HB5.out.size))
            have HG6 := Lib.hid (HG5.out.below hb6 (Nat.le_refl _))
            clear hb6 HNum
            cases X with
            | none =>
              have hYn : Y = none := by rw [← HY.out]; unfold takeD; rw [HZ.out]; simp only; rw [HXe.out]
              subst hYn
              have HQN : Hid (Q = none) := by
                show Q = none
                rw [← ho.out.2.2.2, HStep.out]; rfl
              have HOO : Hid (O = ([], 0, 70)) := by show O = _; rw [HV.out, HQN.out]
              simp only [Wi.numR]
              go_wp2
              go_ret3
              exact ⟨tak_no HOO.out rfl, HB6.out⟩
            | some kq =>
              obtain ⟨k, q'⟩ := kq
              simp only [Wi.numR]
              by_cases hbig : k ≤ 4611686018427387904
              · have hYs : Y = some ((Wi.strB t, (k : Int)), q') := by rw [← HY.out]; unfold takeD; rw [HZ.out]; simp only; rw [HXe.out]; simp only; rw [if_pos hbig]
                subst hYs
                have hq'l := takeD_len HR.out.1 HY.out
                obtain ⟨X, hX⟩ : ∃ X : Int, (k : Int) = X := ⟨_, rfl⟩
                have hgt : ¬ (4611686018427387904 : Int) < X := by omega
                have hw : IntKind.wrap .i64 X = X := by rw [IntKind.wrap_i64]; omega
                have hw2 : wrap64 X = X := by unfold wrap64; omega
                have HQ5 : Hid ((o ++ [(Wi.strB t, X)]).length = ol + 1 ∧ ol + 1 = j + 1 ∧ q' ≤ l.length ∧ (takes l (n - (j + 1)) q').map (fun r => ((o ++ [(Wi.strB t, X)]) ++ r.1, r.2)) = Q) := by
                  refine ⟨by rw [List.length_append, ho.out.1]; rfl, by have := ho.out.2.1; omega, hq'l, ?_⟩
                  rw [← ho.out.2.2.2, HStep.out]
                  show _ = Option.map (fun r => (o ++ r.1, r.2)) ((takes l (n - (j + 1)) q').map fun r => ((Wi.strB t, (k : Int)) :: r.1, r.2))
                  rw [hX]
                  cases takes l (n - (j + 1)) q' <;> simp
                have hszT : (Wi.strB t).size ≤ 9223372036854775807 := by rw [Wi.strB_size]; exact takeT_small HZ.out
                rw [hX]
                obtain ⟨ST, hST⟩ : ∃ s, Wi.strB t = s := ⟨_, rfl⟩
                rw [hST] at HQ5 hszT ⊢
                have HFT : Hid (Fit (o ++ [(ST, X)])) := fun d hd => by
                  rcases List.mem_append.1 hd with hd | hd
                  · exact hft.out d hd
                  · simp at hd; subst hd; exact hszT
                obtain ⟨A6, c6, w7, hap6, gr6, bl6, _, _, _⟩ := HG6.out.one (ST, X) 22 (by have := ho.out.1; have := ho.out.2.1; omega) HB6.out.size
                rw [ho.out.1] at hap6
                simp only at hap6
                have HAP6 := Lib.hid hap6
                have HG7 := Lib.hid gr6
                have HB7 := Lib.hid (HB6.out.trans bl6)
                clear hap6 gr6 bl6 hq64 hbig hX hST hq'l hszT
                go_wp2_with (at_builtin; refine Wi.wpList_append_run rfl _ _ _ _ rfl _ _ rfl rfl HAP6.out ?_; clear HAP6)
                go_roundg (n - (j + 1))
                case rel => exact ⟨j + 1, q', ol + 1, A6, c6, o ++ [(ST, X)], by omega, rfl, by go_num, rfl, rfl, HFT, HQ5, HG7, HB7⟩
                case measure => have := HGK.out; omega
              · have hYn : Y = none := by rw [← HY.out]; unfold takeD; rw [HZ.out]; simp only; rw [HXe.out]; simp only; rw [if_neg hbig]
                subst hYn
                have HQN : Hid (Q = none) := by
                  show Q = none
                  rw [← ho.out.2.2.2, HStep.out]; rfl
                have HOO : Hid (O = ([], 0, 70)) := by show O = _; rw [HV.out, HQN.out]
                obtain ⟨X, hX⟩ : ∃ X : Int, (k : Int) = X := ⟨_, rfl⟩
                have hgt : (4611686018427387904 : Int) < X := by omega
                rw [hX]
                clear hbig hX
                go_wp2
                go_ret3
                exact ⟨tak_no HOO.out rfl, HB6.out⟩
        · have hin : j = n := by omega
          subst hin
          have HQN : Hid (Q = some (o, q)) := by
            show Q = _
            rw [← ho.out.2.2.2, Nat.sub_self]; simp [takes]
          have hfit : Fit o := hft.out
          have hrow := hgr.out.row
          have hol : o.length ≤ 10000000000000 := by have := ho.out.1; have := ho.out.2.1; omega
          have hcall := rright_any c3 hrow hol hfit
          rw [ho.out.1] at hcall
          have HCall := Lib.hid hcall
          obtain ⟨R, hR⟩ : ∃ R, rightB o = R := ⟨_, rfl⟩
          have HRv := Lib.hid hR
          have HOK := Lib.hid (hgr.out.ok hol)
          clear hcall hrow hol hR
          go_wp2_with fail
          refine HCall.out.mono ?_
          rintro e w5 ⟨rfl, hb5⟩
          rw [HRv.out]
          have HB5 := Lib.hid (hbw.out.trans (hb5.mono hbw.out.size))
          have HOK5 := Lib.hid (HOK.out.up hb5)
          clear hb5 HCall
          cases R with
          | false =>
            have HOO : Hid (O = ([], 0, 70)) := by show O = _; rw [HV.out, HQN.out]; simp only; rw [if_neg (by rw [HRv.out]; decide)]
            go_wp2
            go_ret3
            exact ⟨tak_no HOO.out rfl, HB5.out⟩
          | true =>
            have HOO : Hid (O = (o, (q : Int), 0)) := by show O = _; rw [HV.out, HQN.out]; simp only; rw [if_pos HRv.out]
            go_wp2
            go_ret3
            exact ⟨⟨A3, c3, by rw [HOO.out, ho.out.1]; rfl, by rw [HOO.out]; exact HOK5.out⟩, HB5.out⟩
    · have HOO : Hid (O = ([], 0, 70)) := by show O = _; rw [← HO.out]; unfold takeO takeV; rw [HT.out]; simp only; rw [if_neg h64]
      obtain ⟨X, hX⟩ : ∃ X : Int, (n : Int) = X := ⟨_, rfl⟩
      have hg : (64 : Int) < X := by omega
      rw [hX]
      clear h64 hX
      go_wp2
      go_ret3
      exact ⟨tak_no HOO.out rfl, HB2.out⟩
end Go.Proofs.Ytadcmljcbmfcaaa.V
