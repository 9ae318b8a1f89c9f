/-
  The reference's IsName, IsDot, Right, At.
-/
import Derived.Test.YtdffifkleaekhaaVRight
import Derived.BigQuiet
import Derived.IntWalk
import Derived.Deep.DeepCutAuto
namespace Go.Proofs.Ytdffifkleaekhaa.V
open Go.RowKit
set_option linter.unusedVariables false
set_option linter.unusedSimpArgs false

/-- Names that are no longer than a string may be. -/
def Fit (l : List D) : Prop := ∀ d ∈ l, d.1.size ≤ 9223372036854775807

theorem below_drewN {B : Nat} {a w : World} (h : Below B a w) (n : Nat) : Below B a (w.drewN n) := ⟨h.1, h.2, h.3, h.4, h.5⟩

set_option maxRecDepth 100000 in
set_option maxHeartbeats 1600000 in
theorem risName_any (s : ByteArray) (w : World) (hs : s.size ≤ 9223372036854775807) : Calls Try.prog 85 #[.string s] w fun e w' => e = .returned (.bool (nameB s)) ∧ w = w' := by
  have HS := Lib.hid hs
  clear hs
  go_enter Try.func85, Try.ntmps85
  go_wp2
  go_loopg [3] s.size (fun k i wr => ∃ (j : Nat), j ≤ s.size ∧ k = s.size - j ∧ i = .int .i64 j ∧ Hid (∀ (i : Nat) (h : i < s.size), i < j → okN ((s[i]'h).toNat) = true) ∧ wr = w)
  case atStart => exact ⟨0, by omega, by omega, rfl, fun i _ h => absurd h (by omega), rfl⟩
  case round =>
    obtain ⟨j, hj, hgk, rfl, hok, rfl⟩ := hrel
    have HGK := Lib.hid hgk; clear hgk
    by_cases hlt : j < s.size
    · obtain ⟨x, hx⟩ : ∃ x, (s[j]'hlt).toNat = x := ⟨_, rfl⟩
      have hx256 : x < 256 := by rw [← hx]; exact (s[j]'hlt).toNat_lt
      have hw : IntKind.wrap .i64 ((j : Int) + 1) = (j : Int) + 1 := by have := HS.out; rw [IntKind.wrap_i64]; omega
      obtain ⟨X, hX⟩ : ∃ X : Int, (x : Int) = X := ⟨_, rfl⟩
      have hgo : okN x = true → Hid (∀ (i : Nat) (h : i < s.size), i < j + 1 → okN ((s[i]'h).toNat) = true) := fun ho i h hi => by
        by_cases e : i = j
        · subst e; rw [hx]; exact ho
        · exact hok.out i h (by omega)
      have hno : okN x = false → Hid (nameB s = false) := fun ho => nameB_false hlt (by rw [hx]; exact ho)
      have HG := Lib.hid (And.intro hgo hno)
      clear hgo hno
      by_cases h1 : X < 97
      · by_cases h2 : X < 48
        · by_cases h3 : X = 46
          · have h4 : (X != 46) = false := by simp [h3]
            have hY := HG.out.1 (by unfold okN; simp; omega)
            clear HG
            go_wp2
            go_roundg (s.size - (j + 1))
            case rel => exact ⟨j + 1, by omega, rfl, by go_num, hY, rfl⟩
            case measure => have := HGK.out; omega
          · have h4 : (X != 46) = true := by simp [h3]
            have hN := HG.out.2 (by unfold okN; simp; omega)
            clear HG
            go_wp2
            go_ret
            exact ⟨ret_bool hN.out.symm, rfl⟩
        · by_cases h3 : X > 57
          · have h4 : (X != 46) = true := by simp; omega
            have hN := HG.out.2 (by unfold okN; simp; omega)
            clear HG
            go_wp2
            go_ret
            exact ⟨ret_bool hN.out.symm, rfl⟩
          · have hY := HG.out.1 (by unfold okN; simp; omega)
            clear HG
            go_wp2
            go_roundg (s.size - (j + 1))
            case rel => exact ⟨j + 1, by omega, rfl, by go_num, hY, rfl⟩
            case measure => have := HGK.out; omega
      · by_cases h2 : X > 122
        · have h4 : (X != 46) = true := by simp; omega
          have h5 : ¬ X < 48 := by omega
          have h6 : X > 57 := by omega
          have hN := HG.out.2 (by unfold okN; simp; omega)
          clear HG
          go_wp2
          go_ret
          exact ⟨ret_bool hN.out.symm, rfl⟩
        · have hY := HG.out.1 (by unfold okN; simp; omega)
          clear HG
          go_wp2
          go_roundg (s.size - (j + 1))
          case rel => exact ⟨j + 1, by omega, rfl, by go_num, hY, rfl⟩
          case measure => have := HGK.out; omega
    · have hin : j = s.size := by omega
      subst hin
      have hf : ∀ b, b = (decide (1 ≤ s.size) && decide (s.size ≤ 24)) → nameB s = b := fun b hb => by
        unfold nameB
        rw [hb, decide_eq_true (p := ∀ i : Fin s.size, okN ((s[i.val]'i.2).toNat) = true) (fun i => hok.out i.val i.2 i.2), Bool.and_true]
      have HF := Lib.hid hf
      clear hf
      by_cases h1 : ((s.size : Nat) : Int) ≥ 1
      · by_cases h2 : ((s.size : Nat) : Int) ≤ 24
        · go_wp2
          go_ret
          exact ⟨ret_bool (HF.out _ (by simp; omega)).symm, rfl⟩
        · go_wp2
          go_ret
          exact ⟨ret_bool (HF.out _ (by simp; omega)).symm, rfl⟩
      · go_wp2
        go_ret
        exact ⟨ret_bool (HF.out _ (by simp; omega)).symm, rfl⟩

set_option maxRecDepth 100000 in
set_option maxHeartbeats 1600000 in
theorem risDot_any (s : ByteArray) (n : Int) (w : World) (hs : s.size ≤ 9223372036854775807) : Calls Try.prog 54 #[.agg #[.string s, .int .i64 n]] w fun e w' => e = .returned (.bool (dotB (s, n))) ∧ Below w.heap.size w w' := by
  have HB2 := Lib.hid ((Below.refl _ w).alloc (Nat.le_refl _) (.cells #[.string s, .int .i64 n] 23))
  obtain ⟨N, hN⟩ : ∃ N, nameB s = N := ⟨_, rfl⟩
  have hD : dotB (s, n) = (N && (decide (1 ≤ n) && decide (n ≤ 4611686018427387904))) := by unfold dotB; rw [hN]; simp only [Bool.and_assoc]
  rw [hD]
  have HS := Lib.hid hs
  clear hs hD
  cases N with
  | false =>
    go_enter Try.func54, Try.ntmps54
    go_wp2_with fail
    refine (risName_any s _ HS.out).mono ?_
    rintro e w2 ⟨rfl, rfl⟩
    rw [hN]
    go_wp2
    go_ret
    exact ⟨ret_bool (by simp), HB2.out⟩
  | true =>
    by_cases h1 : 1 ≤ n
    · by_cases h3 : n ≤ 4611686018427387904
      all_goals
        go_enter Try.func54, Try.ntmps54
        go_wp2_with fail
        refine (risName_any s _ HS.out).mono ?_
        rintro e w2 ⟨rfl, rfl⟩
        rw [hN]
        go_wp2
        go_ret
        exact ⟨ret_bool (by simp [h1, h3]), HB2.out⟩
    · go_enter Try.func54, Try.ntmps54
      go_wp2_with fail
      refine (risName_any s _ HS.out).mono ?_
      rintro e w2 ⟨rfl, rfl⟩
      rw [hN]
      go_wp2
      go_ret
      exact ⟨ret_bool (by simp; omega), HB2.out⟩

set_option maxRecDepth 100000 in
set_option maxHeartbeats 1600000 in
theorem rat_any {A : Option Addr} {l : List D} (c : Nat) (x : ByteArray) {w : World} (hr : RowD w w.heap.size A l) (hl : l.length ≤ 10000000000000) : Calls Try.prog 56 #[.slice A l.length c, .string x] w fun e w' => e = .returned (.int .i64 (at' l x)) ∧ w = w' := by
  obtain ⟨L, hL⟩ : ∃ L, l.length = L := ⟨_, rfl⟩
  rw [hL] at hl ⊢
  have HR := Lib.hid hr
  clear hr
  go_enter Try.func56, Try.ntmps56
  go_wp2
  go_loopg [5] L (fun k i wr => ∃ (j : Nat), j ≤ L ∧ k = L - j ∧ i = .int .i64 j ∧ Hid (at' (l.drop j) x = at' l x) ∧ wr = w)
  case atStart => exact ⟨0, by omega, by omega, rfl, rfl, rfl⟩
  case round =>
    obtain ⟨j, hj, hgk, rfl, hat, rfl⟩ := hrel
    have HGK := Lib.hid hgk; clear hgk
    by_cases hlt : j < L
    · have hlt' : j < l.length := by rw [hL]; exact hlt
      obtain ⟨b, off, rfl, hbs, c0, c1⟩ := HR.out.at j hlt'
      obtain ⟨⟨s, n⟩, hd⟩ : ∃ d, l[j]'hlt' = d := ⟨_, rfl⟩
      rw [hd] at c0 c1
      simp only at c0 c1
      have hk := Lib.hid (at_drop x hlt' hd)
      obtain ⟨E, hE⟩ : ∃ E, decide (s = x) = E := ⟨_, rfl⟩
      have heq : (s.toList == x.toList) = E := by rw [eq_str, hE]
      cases E with
      | true =>
        have hf := Lib.hid (show at' l x = n by rw [← hat.out, hk.out]; exact if_pos (of_decide_eq_true hE))
        clear hE
        go_wp2
        go_ret
        exact ⟨by rw [hf.out]; rfl, rfl⟩
      | false =>
        have hf := Lib.hid (show at' (l.drop (j + 1)) x = at' l x by rw [← hat.out, hk.out]; exact (if_neg (of_decide_eq_false hE)).symm)
        clear hE
        go_wp2
        go_roundg (L - (j + 1))
        case rel => exact ⟨j + 1, by omega, rfl, by go_num, hf, rfl⟩
        case measure => have := HGK.out; omega
    · have hin : j = L := by omega
      subst hin
      have hf := Lib.hid (show at' l x = 0 by rw [← hat.out, List.drop_eq_nil_of_le (by omega)]; rfl)
      go_wp2
      go_ret
      exact ⟨by rw [hf.out]; rfl, rfl⟩

/-- The name ahead of a place. -/
def befR (l : List D) (j : Nat) : ByteArray := match j with | 0 => ByteArray.empty | k + 1 => match l[k]? with | none => ByteArray.empty | some d => d.1

set_option maxRecDepth 100000 in
set_option maxHeartbeats 1600000 in
theorem rright_any {A : Option Addr} {l : List D} (c : Nat) {w : World} (hr : RowD w w.heap.size A l) (hl : l.length ≤ 10000000000000) (hfit : Fit l) : Calls Try.prog 55 #[.slice A l.length c] w fun e w' => e = .returned (.bool (rightB l)) ∧ Below w.heap.size w w' := by
  by_cases h64 : l.length ≤ 64
  · have hR : rightB l = chkR ByteArray.empty l := by unfold rightB; simp [h64]
    rw [hR]
    obtain ⟨L, hL⟩ : ∃ L, l.length = L := ⟨_, rfl⟩
    rw [hL] at h64 ⊢
    have HR := Lib.hid hr
    have HF := Lib.hid hfit
    clear hr hR hl hfit
    go_enter Try.func55, Try.ntmps55
    go_wp2
    go_loopg [3] L (fun k i wr => ∃ (j : Nat), j ≤ L ∧ k = L - j ∧ i = .int .i64 j ∧ Hid (chkR (befR l j) (l.drop j) = chkR ByteArray.empty l) ∧ Below w.heap.size w wr)
    case atStart => exact ⟨0, by omega, by omega, rfl, rfl, Below.refl _ w⟩
    case round =>
      obtain ⟨j, hj, hgk, rfl, hchk, hbw⟩ := hrel
      have HGK := Lib.hid hgk; clear hgk
      by_cases hlt : j < L
      · have hlt' : j < l.length := by rw [hL]; exact hlt
        obtain ⟨b, off, rfl, hbs, c0, c1⟩ := HR.out.at j hlt'
        obtain ⟨⟨s, n⟩, hd⟩ : ∃ d, l[j]'hlt' = d := ⟨_, rfl⟩
        have hsf : Hid (s.size ≤ 9223372036854775807) := by have := HF.out _ (List.getElem_mem hlt'); rw [hd] at this; exact this
        rw [hd] at c0 c1
        have g0 := (hbw.cell hbs).trans c0
        have g1 := (hbw.cell (p := ⟨b, off + j * 2 + 1, none⟩) hbs).trans c1
        clear c0 c1
        simp only at g0 g1
        have hk := Lib.hid (chkR_drop (bef := befR l j) hlt' hd)
        have hnx : Hid (befR l (j + 1) = s) := by show befR l (j + 1) = s; simp only [befR]; rw [List.getElem?_eq_getElem hlt', hd]
        obtain ⟨N, hN⟩ : ∃ N, dotB (s, n) = N := ⟨_, rfl⟩
        go_wp2_with fail
        refine (risDot_any s n _ hsf.out).mono ?_
        rintro e w2 ⟨rfl, h2⟩
        rw [hN]
        have HB2 := Lib.hid (hbw.trans (h2.mono hbw.size))
        have k0 := (h2.cell (p := ⟨b, off + j * 2, none⟩) (by have := hbw.size; show b < _; omega)).trans g0
        clear h2 g0 g1
        cases N with
        | false =>
          have hf := Lib.hid (show chkR ByteArray.empty l = false by rw [← hchk.out, hk.out, hN]; rfl)
          clear hbw
          go_upto_region 7 with fail
          go_quiet (fail)
          go_wp2
          go_ret
          exact ⟨ret_bool (by rw [hf.out]), below_drewN HB2.out _⟩
        | true =>
          cases j with
          | zero =>
            have hlt0 : Hid (ltA (befR l 0) s = true) := lt_empty (nameB_pos (dotB_iff.1 hN).1).1
            have hc2 := Lib.hid (show chkR (befR l 1) (l.drop 1) = chkR ByteArray.empty l by rw [← hchk.out, hk.out, hlt0.out, hN, hnx.out]; simp)
            clear hbw
            go_upto_region 7 with fail
            go_quiet (fail)
            go_wp2
            go_roundg (L - 1)
            case rel => exact ⟨1, by omega, rfl, by go_num, hc2, below_drewN HB2.out _⟩
            case measure => have := HGK.out; omega
          | succ p =>
            have hp' : p < l.length := by omega
            obtain ⟨b', off', e', hbs', p0, p1⟩ := HR.out.at p hp'
            injection e' with e'
            injection e' with e1 e2
            subst e1; subst e2
            obtain ⟨⟨s0, n0⟩, hd0⟩ : ∃ d, l[p]'hp' = d := ⟨_, rfl⟩
            rw [hd0] at p0 p1
            have q0 := (HB2.out.cell (p := ⟨b, off + p * 2, none⟩) hbs).trans p0
            clear p0 p1 hbs'
            simp only at q0
            have hbf : Hid (befR l (p + 1) = s0) := by show befR l (p + 1) = s0; simp only [befR]; rw [List.getElem?_eq_getElem hp', hd0]
            obtain ⟨Lt, hLt⟩ : ∃ Lt, ltA s0 s = Lt := ⟨_, rfl⟩
            have hlt3 : Op.bytesLess s0.toList s.toList = Lt := hLt
            have hcp : ((p + 1 : Nat) : Int) = (p : Int) + 1 := by omega
            rw [hcp] at *
            have g5 : IntKind.wrap .i64 ((p : Int) + 1 - 1) = (p : Int) := by rw [IntKind.wrap_i64]; omega
            clear hbw
            cases Lt with
            | true =>
              have hc2 := Lib.hid (show chkR (befR l (p + 2)) (l.drop (p + 2)) = chkR ByteArray.empty l by rw [← hchk.out, hk.out, hbf.out, hLt, hN, hnx.out]; simp)
              go_upto_region 7 with fail
              go_quiet (fail)
              go_wp2
              go_roundg (L - (p + 2))
              case rel => exact ⟨p + 2, by omega, rfl, by go_num, hc2, below_drewN HB2.out _⟩
              case measure => have := HGK.out; omega
            | false =>
              have hf := Lib.hid (show chkR ByteArray.empty l = false by rw [← hchk.out, hk.out, hbf.out, hLt]; simp)
              go_upto_region 7 with fail
              go_quiet (fail)
              go_wp2
              go_ret
              exact ⟨ret_bool (by rw [hf.out]), below_drewN HB2.out _⟩
      · have hin : j = L := by omega
        subst hin
        have hf := Lib.hid (show chkR ByteArray.empty l = true by rw [← hchk.out, List.drop_eq_nil_of_le (by omega)]; cases j <;> rfl)
        go_wp2
        go_ret
        exact ⟨ret_bool (by rw [hf.out]), hbw⟩
  · have hf := Lib.hid (show rightB l = false by unfold rightB; simp [h64])
    have g2 : ((l.length : Nat) : Int) > 64 := by omega
    go_enter Try.func55, Try.ntmps55
    go_wp2
    go_ret
    exact ⟨ret_bool hf.out.symm, Below.refl _ w⟩
end Go.Proofs.Ytdffifkleaekhaa.V
