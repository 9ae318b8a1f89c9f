/-
  The program's Meet.
-/
import Derived.Test.YtadcmljcbmfcaaaVSame
namespace Go.Proofs.Ytadcmljcbmfcaaa.V
open Go.RowKit
set_option linter.unusedVariables false
set_option linter.unusedSimpArgs false

theorem outF_cons (f : Int → Int → Int) (z : T) (xs : List T) : outF f (z :: xs) = if 0 < f z.2.1 z.2.2 then (z.1, f z.2.1 z.2.2) :: outF f xs else outF f xs := by
  unfold outF
  rw [List.filterMap_cons]
  by_cases h : 0 < f z.2.1 z.2.2
  · simp only [h, if_true]
  · simp only [h, if_false]
theorem meet_len : ∀ (k : Nat) (a b : List D), srt ordA a → srt ordA b → pos a → pos b → (outF min (mrg k a b)).length ≤ b.length
  | 0, a, b, _, _, _, _ => by simp [mrg, outF]
  | k + 1, a, b, sa, sb, pa, pb => by
    revert pa pb
    refine mrg_cases k (fun a b => pos a → pos b → (outF min (mrg (k + 1) a b)).length ≤ b.length) ?_ ?_ ?_ ?_ a b sa sb
    · intro _ _; rw [mrg_nil]; simp [outF]
    · rintro ⟨w, j⟩ s b _ sa sb e h pa pb
      have hj := pa (w, j) (List.mem_cons_self ..)
      simp only at hj
      rw [e, outF_cons, if_neg (by simp only; omega)]
      exact meet_len k s b sa.2 sb (fun d hd => pa d (List.mem_cons_of_mem _ hd)) pb
    · rintro a ⟨w, j⟩ t _ sa sb e h pa pb
      have hj := pb (w, j) (List.mem_cons_self ..)
      simp only at hj
      rw [e, outF_cons, if_neg (by simp only; omega)]
      have := meet_len k a t sa sb.2 pa fun d hd => pb d (List.mem_cons_of_mem _ hd)
      rw [List.length_cons]; omega
    · intro w i j s t sa sb e h pa pb
      have := meet_len k s t sa.2 sb.2 (fun d hd => pa d (List.mem_cons_of_mem _ hd)) fun d hd => pb d (List.mem_cons_of_mem _ hd)
      rw [e, outF_cons]
      split
      · simp only [List.length_cons]; omega
      · rw [List.length_cons]; omega
theorem meetL_len {a b : List D} (sa : srt ordA a) (sb : srt ordA b) (pa : pos a) (pb : pos b) : (meetL a b).length ≤ b.length := meet_len _ a b sa sb pa pb
theorem meetL_srt {a b : List D} (sa : srt ordA a) (sb : srt ordA b) : srt ordA (meetL a b) := outF_srt min (mrg_srt _ a b sa sb)
theorem meetL_pos (a b : List D) : pos (meetL a b) := outF_pos _ _
theorem meetL_at {a b : List D} (sa : srt ordA a) (sb : srt ordA b) (pa : pos a) (pb : pos b) (x : ByteArray) : at' (meetL a b) x = min (at' a x) (at' b x) := by
  unfold meetL
  rw [outF_at min (by decide) sa sb pa pb _ (Nat.le_refl _)]
  have := at_pos pa x
  have := at_pos pb x
  omega
def meetF (o : List D) (ls : List Vc) : List D := ls.foldl (fun o x => meetL o x.l) o
def meetO : List Vc → List D × Int
  | [] => ([], 2)
  | x :: t => if allR (x :: t) = true then (meetF x.l (x :: t), 0) else ([], 2)
theorem meetF_drop {ls : List Vc} {j : Nat} {x : Vc} (o : List D) (hj : j < ls.length) (hd : ls[j]'hj = x) : meetF o (ls.drop j) = meetF (meetL o x.l) (ls.drop (j + 1)) := by
  rw [List.drop_eq_getElem_cons hj, hd]; rfl

set_option maxRecDepth 100000 in
set_option maxHeartbeats 3200000 in
theorem meet_any {A : Option Addr} {ls : List Vc} (c : Nat) {w : World} (hr : RowL w w.heap.size A ls) (hl : ls.length ≤ 10000000000000) : Calls Try.prog 31 #[.slice A ls.length c] w fun e w' => VecR e w' (meetO ls) ∧ Below w.heap.size w w' := by
  cases ls with
  | nil =>
    simp only [List.length_nil, meetO]
    clear hr hl
    go_enter Try.func31, Try.ntmps31
    go_wp2
    go_ret2
    exact ⟨⟨none, 0, rfl, nil_ok _ _⟩, Below.refl _ _⟩
  | cons x t =>
    obtain ⟨L, hL⟩ : ∃ L, (x :: t).length = L := ⟨_, rfl⟩
    have hpos : 0 < L := by rw [← hL]; simp
    have hn0 : (((L : Nat) : Int) == 0) = false := by rw [beq_eq_false_iff_ne]; omega
    obtain ⟨R, hR⟩ : ∃ R, allR (x :: t) = R := ⟨_, rfl⟩
    obtain ⟨O, hO⟩ : ∃ O, meetO (x :: t) = O := ⟨_, rfl⟩
    have hO2 : O = if R = true then (meetF x.l (x :: t), 0) else ([], 2) := by rw [← hO, ← hR]; rfl
    have HO2 := Lib.hid hO2
    have HRv := Lib.hid hR
    have HR := Lib.hid (And.intro hr hl)
    have HL := Lib.hid hL
    rw [hO, hL]
    have hlb : L ≤ 10000000000000 := by rw [← hL]; exact hl
    clear hO2 hR hr hl hL hO
    go_enter Try.func31, Try.ntmps31
    go_wp2_with fail
    rw [← HL.out]
    refine (allRight_any c HR.out.1 HR.out.2).mono ?_
    rintro e wa ⟨rfl, hba⟩
    rw [HRv.out, HL.out]
    have HA := Lib.hid hba
    clear hba
    cases R with
    | false =>
      have HO : Hid (O = ([], 2)) := HO2.out
      go_wp2
      go_ret2
      exact ⟨⟨none, 0, by rw [HO.out]; rfl, by rw [HO.out]; exact nil_ok _ _⟩, HA.out⟩
    | true =>
      have HO : Hid (O = (meetF x.l (x :: t), 0)) := HO2.out
      obtain ⟨b, off, rfl, hbs, hc⟩ := HR.out.1 (by simp)
      obtain ⟨c0, o0⟩ := hc 0 x rfl
      have g0 := (HA.out.cell (p := ⟨b, off + 0, none⟩) hbs).trans c0
      have OX := Lib.hid (o0.up HA.out)
      have hall : ∀ y ∈ x :: t, rightB y.l = true := fun y hy => (List.all_eq_true.1 (show (x :: t).all (fun x => rightB x.l) = true from HRv.out)) y hy
      have HAll := Lib.hid hall
      have hrx := hall x (by simp)
      have HRX := Lib.hid hrx
      obtain ⟨xA, xc, xl⟩ := x
      simp only [Vc.v, Nat.add_zero] at g0
      obtain ⟨xn, hxn⟩ : ∃ n, xl.length = n := ⟨_, rfl⟩
      rw [hxn] at g0
      have HXN := Lib.hid hxn
      clear c0 o0 hc hall hrx hxn HO2
      go_wp2
      clear g0
      go_loopg [4, 20] L (fun k p i wr => ∃ (j : Nat) (A : Option Addr) (c n : Nat) (o : List D), j ≤ L ∧ k = L - j ∧ i = .int .i64 j ∧ p = .slice A n c ∧ Hid (o.length = n ∧ n ≤ 64 ∧ srt ordA o ∧ pos o ∧ meetF o ((⟨xA, xc, xl⟩ :: t : List Vc).drop j) = meetF xl (⟨xA, xc, xl⟩ :: t)) ∧ Hid (Vc.ok ⟨A, c, o⟩ wr wr.heap.size) ∧ Hid (Below w.heap.size w wr))
      case atStart => exact ⟨0, xA, xc, xn, xl, by omega, by omega, rfl, rfl, ⟨HXN.out, by rw [← HXN.out]; exact right_len HRX.out, right_srt HRX.out, right_pos HRX.out, rfl⟩, OX, HA⟩
      case round =>
        obtain ⟨j, A, c', n, o, hj, hgk, rfl, rfl, ho, hok, hbw⟩ := hrel
        have HGK := Lib.hid hgk; clear hgk
        by_cases hlt : j < L
        · have hlt' : j < (⟨xA, xc, xl⟩ :: t : List Vc).length := by rw [HL.out]; exact hlt
          obtain ⟨b', off', e', hbs', hc⟩ := HR.out.1 (by simp)
          injection e' with e'
          injection e' with e1 e2
          subst e1; subst e2
          obtain ⟨c0, o0⟩ := hc j _ (List.getElem?_eq_getElem hlt')
          obtain ⟨y, hd⟩ : ∃ y, (⟨xA, xc, xl⟩ :: t : List Vc)[j]'hlt' = y := ⟨_, rfl⟩
          have hry := HAll.out y (by rw [← hd]; exact List.getElem_mem hlt')
          have HRY := Lib.hid hry
          rw [hd] at c0 o0
          have hk := Lib.hid (meetF_drop o hlt' hd)
          have g0 := (hbw.out.cell (p := ⟨b, off + j, none⟩) hbs').trans c0
          have OY := Lib.hid (o0.up hbw.out)
          clear c0 o0 hc hry hd
          obtain ⟨yA, yc, yl⟩ := y
          simp only [Vc.v] at g0
          obtain ⟨yn, hyn⟩ : ∃ n, yl.length = n := ⟨_, rfl⟩
          rw [hyn] at g0
          have HYN := Lib.hid hyn
          clear hyn
          have hcall := meet2_any hok.out OY.out (by have := ho.out.1; have := ho.out.2.1; have := right_len HRY.out; simp only at this ⊢; omega)
          simp only [Vc.v] at hcall
          rw [ho.out.1, HYN.out] at hcall
          have HO5 : Hid (srt ordA (meetL o yl) ∧ pos (meetL o yl) ∧ (meetL o yl).length ≤ 64 ∧ meetF (meetL o yl) ((⟨xA, xc, xl⟩ :: t : List Vc).drop (j + 1)) = meetF xl (⟨xA, xc, xl⟩ :: t)) :=
            ⟨meetL_srt ho.out.2.2.1 (right_srt HRY.out), meetL_pos _ _, Nat.le_trans (meetL_len ho.out.2.2.1 (right_srt HRY.out) ho.out.2.2.2.1 (right_pos HRY.out)) (right_len HRY.out), by rw [← ho.out.2.2.2.2, hk.out]⟩
          have HCall := Lib.hid hcall
          clear hcall
          go_wp2_with fail
          refine HCall.out.mono ?_
          rintro e w5 ⟨⟨A5, c5, rfl, ok5⟩, hb5⟩
          obtain ⟨n5, hn5⟩ : ∃ n, (meetL o yl).length = n := ⟨_, rfl⟩
          have HN5 := Lib.hid hn5
          rw [hn5]
          have OK5 := Lib.hid ok5
          have HB5 := Lib.hid (hbw.out.trans (hb5.mono hbw.out.size))
          clear hn5 ok5 hb5 HCall g0
          go_wp2
          go_roundg (L - (j + 1))
          case rel => exact ⟨j + 1, A5, c5, n5, meetL o yl, by omega, rfl, by go_num, rfl, ⟨HN5.out, by rw [← HN5.out]; exact HO5.out.2.2.1, HO5.out.1, HO5.out.2.1, HO5.out.2.2.2⟩, OK5, HB5⟩
          case measure => have := HGK.out; omega
        · have hin : j = L := by omega
          subst hin
          have hf : Hid (o = meetF xl (⟨xA, xc, xl⟩ :: t)) := by
            have := ho.out.2.2.2.2
            rw [List.drop_eq_nil_of_le (by have := HL.out; omega)] at this
            exact this
          go_wp2
          go_ret2
          exact ⟨⟨A, c', by rw [HO.out, ← hf.out, ho.out.1]; rfl, by rw [HO.out, ← hf.out]; exact hok.out⟩, hbw.out⟩
end Go.Proofs.Ytadcmljcbmfcaaa.V
