/-
  The program's Take.
-/
import Derived.Test.YtadcmljcbmfcaaaVTakeDot
namespace Go.Proofs.Ytadcmljcbmfcaaa.V
open Go.RowKit
set_option linter.unusedVariables false
set_option linter.unusedSimpArgs false

def takes (l : List Nat) : Nat → Nat → Option (List D × Nat)
  | 0, p => some ([], p)
  | k + 1, p => match takeD l (p : Int) with
    | none => none
    | some (d, q) => (takes l k q).map fun r => (d :: r.1, r.2)
def nextT (l : List Nat) (k : Nat) : Option (D × Nat) → Option (List D × Nat)
  | none => none
  | some (d, q) => (takes l k q).map fun r => (d :: r.1, r.2)
theorem takes_succ (l : List Nat) (k p : Nat) : takes l (k + 1) p = nextT l k (takeD l (p : Int)) := by
  show (match takeD l (p : Int) with | none => none | some (d, q) => (takes l k q).map fun r : List D × Nat => (d :: r.1, r.2)) = _
  cases takeD l (p : Int) <;> rfl
def takeV (l : List Nat) (a : Int) : Option (List D × Nat) :=
  match Wi.M.takeN l a with
  | none => none
  | some (n, p) => if n ≤ 64 then (match takes l n p with
    | none => none
    | some r => if rightB r.1 = true then some r else none) else none
def takeO (l : List Nat) (a : Int) : List D × Int × Int := match takeV l a with | none => ([], 0, 70) | some (v, q) => (v, (q : Int), 0)
theorem takeN_len {l : List Nat} (hl : ∀ x ∈ l, x < 256) {a : Int} {n p : Nat} (h : Wi.M.takeN l a = some (n, p)) : p ≤ l.length := (Wi.takeN_some hl h).2.2.2.1
theorem takeD_len {l : List Nat} (hl : ∀ x ∈ l, x < 256) {a : Int} {d : D} {q : Nat} (h : takeD l a = some (d, q)) : q ≤ l.length := by
  unfold takeD at h
  split at h
  · cases h
  · split at h
    · cases h
    · rename_i n q' hn
      split at h
      · injection h with h
        have := congrArg Prod.snd h
        simp only at this
        subst this
        exact takeN_len hl hn
      · cases h
/-- A vector that is read, where it ends, and an error. -/
def TakR (e : Ending) (w : World) (r : List D × Int × Int) : Prop := ∃ A c, e = .returned (.tuple #[.slice A r.1.length c, .int .i64 r.2.1, .int .i64 r.2.2]) ∧ Vc.ok ⟨A, c, r.1⟩ w w.heap.size
theorem tak_no {e : Ending} {w : World} {O : List D × Int × Int} (h : O = ([], 0, 70)) (he : e = .returned (.tuple #[.slice none 0 0, .int .i64 0, .int .i64 70])) : TakR e w O := ⟨none, 0, by rw [h]; exact he, by rw [h]; exact nil_ok _ _⟩

set_option maxRecDepth 100000 in
set_option maxHeartbeats 3200000 in
theorem take_any (A : Option Addr) (c : Nat) (l : List Nat) (a : Int) (w : World) (hr : Wi.Row w w.heap.size A l) (hcap : l.length ≤ c) (hl : l.length ≤ 281474976710656) (ha1 : -9223372036854775808 ≤ a) (ha2 : a ≤ 9223372036854775807) :
    Calls Try.prog 35 #[.slice A l.length c, .int .i64 a] w fun e w' => TakR e w' (takeO l a) ∧ Below w.heap.size w w' := by
  have hnum := Wi.takeNumber_any A c l a w hr hl ha1 ha2
  obtain ⟨T, hT⟩ : ∃ T, Wi.M.takeN l a = T := ⟨_, rfl⟩
  obtain ⟨O, hO⟩ : ∃ O, takeO l a = O := ⟨_, rfl⟩
  rw [hO]
  rw [hT] at hnum
  obtain ⟨ln, hln⟩ : ∃ n, l.length = n := ⟨_, rfl⟩
  rw [hln] at hnum hcap hl ⊢
  have HT := Lib.hid hT
  have HO := Lib.hid hO
  have HNum := Lib.hid hnum
  have HR := Lib.hid hr
  have HLN := Lib.hid hln
  have HCl := Lib.hid (And.intro hcap hl)
  clear hnum hT hO hr hcap hl hln
  go_enter Try.func35, Try.ntmps35
  go_wp2_with fail
  refine HNum.out.mono ?_
  rintro e w2 ⟨rfl, hb2⟩
  have HB2 := Lib.hid hb2
  clear hb2 HNum
  cases T with
  | none =>
    have HOO : Hid (O = ([], 0, 70)) := by show O = _; rw [← HO.out]; unfold takeO takeV; rw [HT.out]
    simp only [Wi.numR]
    go_wp2
    go_ret3
    exact ⟨tak_no HOO.out rfl, HB2.out⟩
  | some np =>
    obtain ⟨n, p⟩ := np
    have hpl := takeN_len HR.out.1 HT.out
    simp only [Wi.numR]
    by_cases h64 : n ≤ 64
    · have HV : Hid (O = match (match takes l n p with | none => none | some r => if rightB r.1 = true then some r else none : Option (List D × Nat)) with | none => ([], 0, 70) | some (v, q) => (v, (q : Int), 0)) := by
        show O = _
        rw [← HO.out]; unfold takeO takeV; rw [HT.out]; simp only; rw [if_pos h64]
      have hg : ¬ (64 : Int) < (n : Int) := by omega
      have HPL := Lib.hid hpl
      obtain ⟨Q, hQ⟩ : ∃ Q, takes l n p = Q := ⟨_, rfl⟩
      rw [hQ] at HV
      have HQ := Lib.hid hQ
      clear hQ hpl
      go_wp2
      go_loopg [8, 10, 28] n (fun k e s i wr => ∃ (j q ol : Nat) (A3 : Option Addr) (c3 : Nat) (o : List D), j ≤ n ∧ k = n - j ∧ i = .int .u64 j ∧ e = .int .i64 q ∧ s = .slice A3 ol c3 ∧ Hid (o.length = ol ∧ ol = j ∧ q ≤ l.length ∧ (takes l (n - j) q).map (fun r => (o ++ r.1, r.2)) = Q) ∧ Hid (GrD wr w.heap.size A3 c3 o) ∧ Hid (Below w.heap.size w wr))
      case atStart => exact ⟨0, p, 0, none, 0, [], by omega, by omega, rfl, rfl, rfl, ⟨rfl, rfl, HPL.out, by rw [← HQ.out, Nat.sub_zero]; cases takes l n p <;> simp⟩, GrD.nil _ _, HB2⟩
      case round =>
        obtain ⟨j, q, ol, A3, c3, o, hj, hgk, rfl, rfl, rfl, ho, hgr, hbw⟩ := hrel
        have HGK := Lib.hid hgk; clear hgk
        by_cases hlt : j < n
        · have hltI : (j : Int) < (n : Int) := by omega
          have hq64 : (q : Int) ≤ 281474976710656 := by have := ho.out.2.2.1; have := HCl.out.2; have := HLN.out; omega
          have hcall := takeDot_any A c l (q : Int) wr ((HR.out.below hbw.out).more hbw.out.size) (by rw [HLN.out]; exact HCl.out.1) (by rw [HLN.out]; exact HCl.out.2) (by omega) (by omega)
          obtain ⟨Z, hZ⟩ : ∃ Z, takeD l (q : Int) = Z := ⟨_, rfl⟩
          rw [hZ, HLN.out] at hcall
          have hstep : takes l (n - j) q = nextT l (n - (j + 1)) Z := by rw [show n - j = (n - (j + 1)) + 1 by omega, takes_succ, hZ]
          have HStep := Lib.hid hstep
          have HZ := Lib.hid hZ
          have HCall := Lib.hid hcall
          clear hcall hZ hstep
          go_wp2_with fail
          refine HCall.out.mono ?_
          rintro e w5 ⟨rfl, hb5⟩
          have HB5 := Lib.hid (hbw.out.trans (hb5.mono hbw.out.size))
          have HG5 := Lib.hid (hgr.out.below hb5 (Nat.le_refl _))
          clear hb5 HCall
          cases Z with
          | none =>
            have HQN : Hid (Q = none) := by
              show Q = none
              rw [← ho.out.2.2.2, HStep.out]; rfl
            have HOO : Hid (O = ([], 0, 70)) := by show O = _; rw [HV.out, HQN.out]
            simp only [dotR]
            have HB6 := Lib.hid (HB5.out.trans ((Below.refl w5.heap.size w5).alloc (Nat.le_refl _) (.cells #[.string ⟨#[]⟩, .int .i64 0] 24) |>.mono HB5.out.size))
            go_wp2
            go_ret3
            exact ⟨tak_no HOO.out rfl, HB6.out⟩
          | some dq =>
            obtain ⟨⟨s, m⟩, q'⟩ := dq
            have hq'l := takeD_len HR.out.1 HZ.out
            have HQ5 : Hid ((o ++ [(s, m)]).length = ol + 1 ∧ ol + 1 = j + 1 ∧ q' ≤ l.length ∧ (takes l (n - (j + 1)) q').map (fun r => ((o ++ [(s, m)]) ++ r.1, r.2)) = Q) := by
              refine ⟨by rw [List.length_append, ho.out.1]; rfl, by have := ho.out.2.1; omega, hq'l, ?_⟩
              rw [← ho.out.2.2.2, HStep.out]
              show _ = Option.map (fun r => (o ++ r.1, r.2)) ((takes l (n - (j + 1)) q').map fun r => ((s, m) :: r.1, r.2))
              cases takes l (n - (j + 1)) q' <;> simp
            simp only [dotR]
            obtain ⟨Wd, hWd⟩ : ∃ Wd, w5.alloc (.cells #[.string s, .int .i64 m] 24) = Wd := ⟨_, rfl⟩
            have hbd : Below w5.heap.size w5 Wd := by rw [← hWd]; exact (Below.refl _ w5).alloc (Nat.le_refl _) _
            have htd : Two Wd w5.heap.size (.string s) (.int .i64 m) := by rw [← hWd]; exact Two.new w5 _ _
            have HBd := Lib.hid (HB5.out.trans (hbd.mono HB5.out.size))
            obtain ⟨A6, c6, w6, hap6, gr6, bl6, _, _, _⟩ := (HG5.out.below hbd (Nat.le_refl _)).one (s, m) 22 (by have := ho.out.1; have := ho.out.2.1; omega) HBd.out.size
            rw [ho.out.1] at hap6
            simp only at hap6
            have HAP6 := Lib.hid hap6
            have HG6 := Lib.hid gr6
            have HB6 := Lib.hid (HBd.out.trans bl6)
            have HWd := Lib.hid hWd
            have e0 := htd.c0
            have e1 := htd.c1
            rw [← hWd] at e0 e1
            have hap' := hap6
            rw [← hWd] at hap'
            simp only [World.size_alloc] at hap'
            have HAP := Lib.hid hap'
            have hwj : IntKind.wrap .u64 ((j : Int) + 1) = (j : Int) + 1 := by rw [IntKind.wrap_u64]; omega
            clear hap6 gr6 bl6 hbd htd hWd hap' HAP6 hq64
            go_wp2_with (at_builtin; refine Wi.wpList_append_run rfl _ _ _ _ rfl _ _ rfl rfl HAP.out ?_; clear HAP)
            clear e0 e1
            go_roundg (n - (j + 1))
            case rel => exact ⟨j + 1, q', ol + 1, A6, c6, o ++ [(s, m)], by omega, rfl, by go_num, rfl, rfl, HQ5, HG6, HB6⟩
            case measure => have := HGK.out; omega
        · have hin : j = n := by omega
          subst hin
          have HQN : Hid (Q = some (o, q)) := by
            show Q = _
            rw [← ho.out.2.2.2, Nat.sub_self]; simp [takes]
          have hrow := hgr.out.row
          have hol : o.length ≤ 10000000000000 := by have := ho.out.1; have := ho.out.2.1; omega
          have hcall := right_any c3 hrow hol
          rw [ho.out.1] at hcall
          have HCall := Lib.hid hcall
          obtain ⟨R, hR⟩ : ∃ R, rightB o = R := ⟨_, rfl⟩
          have HRv := Lib.hid hR
          have HOK := Lib.hid (hgr.out.ok hol)
          clear hcall hrow hol hR
          go_wp2_with fail
          refine HCall.out.mono ?_
          rintro e w5 ⟨rfl, hb5⟩
          rw [HRv.out]
          have HB5 := Lib.hid (hbw.out.trans (hb5.mono hbw.out.size))
          have HOK5 := Lib.hid (HOK.out.up hb5)
          clear hb5 HCall
          cases R with
          | false =>
            have HOO : Hid (O = ([], 0, 70)) := by show O = _; rw [HV.out, HQN.out]; simp only; rw [if_neg (by rw [HRv.out]; decide)]
            go_wp2
            go_ret3
            exact ⟨tak_no HOO.out rfl, HB5.out⟩
          | true =>
            have HOO : Hid (O = (o, (q : Int), 0)) := by show O = _; rw [HV.out, HQN.out]; simp only; rw [if_pos HRv.out]
            go_wp2
            go_ret3
            exact ⟨⟨A3, c3, by rw [HOO.out, ho.out.1]; rfl, by rw [HOO.out]; exact HOK5.out⟩, HB5.out⟩
    · have HOO : Hid (O = ([], 0, 70)) := by show O = _; rw [← HO.out]; unfold takeO takeV; rw [HT.out]; simp only; rw [if_neg h64]
      obtain ⟨X, hX⟩ : ∃ X : Int, (n : Int) = X := ⟨_, rfl⟩
      have hg : (64 : Int) < X := by omega
      rw [hX]
      clear h64 hX
      go_wp2
      go_ret3
      exact ⟨tak_no HOO.out rfl, HB2.out⟩
end Go.Proofs.Ytadcmljcbmfcaaa.V
