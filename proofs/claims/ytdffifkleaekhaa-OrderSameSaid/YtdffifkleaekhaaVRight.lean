/-
  The program's rightDot, Right, At.
-/
import Derived.Test.YtdffifkleaekhaaVName
import Derived.Scope
namespace Go.Proofs.Ytdffifkleaekhaa.V
open Go.RowKit
set_option linter.unusedVariables false
set_option linter.unusedSimpArgs false

theorem dotB_false {s : ByteArray} {n : Int} (h : ¬ (1 ≤ n ∧ n ≤ 4611686018427387904)) : dotB (s, n) = false := by
  unfold dotB
  cases nameB s <;> simp
  omega

set_option maxRecDepth 100000 in
set_option maxHeartbeats 1600000 in
theorem rightDot_any (s : ByteArray) (n : Int) (w : World) : Calls Try.prog 91 #[.agg #[.string s, .int .i64 n]] w fun e w' => e = .returned (.bool (dotB (s, n))) ∧ Below w.heap.size w w' := by
  have hb : ∀ w2, Below (w.alloc (.cells #[.string s, .int .i64 n] 23)).heap.size (w.alloc (.cells #[.string s, .int .i64 n] 23)) w2 → Below w.heap.size w w2 := fun w2 h => ((Below.refl _ w).alloc (Nat.le_refl _) _).trans (h.mono (by simp))
  have hc : ∀ w2, Below (w.alloc (.cells #[.string s, .int .i64 n] 23)).heap.size (w.alloc (.cells #[.string s, .int .i64 n] 23)) w2 → w2.cell? ⟨w.heap.size, 1, none⟩ = some (.int .i64 n) := fun w2 h => (h.cell (p := ⟨w.heap.size, 1, none⟩) (by simp)).trans (by simp [go_sem])
  obtain ⟨N, hN⟩ : ∃ N, nameB s = N := ⟨_, rfl⟩
  have hD : dotB (s, n) = (N && (decide (1 ≤ n) && decide (n ≤ 4611686018427387904))) := by unfold dotB; rw [hN]; simp only [Bool.and_assoc]
  rw [hD]
  obtain ⟨M, hM⟩ : ∃ M : Int, M = 4611686018427387904 := ⟨_, rfl⟩
  have HB := Lib.hid (And.intro hb hc)
  clear hb hc hD
  cases N with
  | false =>
    go_enter Try.func91, Try.ntmps91
    go_wp2_with fail
    refine (isName_any s _).mono ?_
    rintro e w2 ⟨rfl, h2⟩
    have H2 := HB.out.1 w2 h2
    clear h2 HB
    rw [hN]
    go_wp2
    go_ret
    exact ⟨ret_bool (by simp), H2⟩
  | true =>
    by_cases h1 : 1 ≤ n
    · by_cases h3 : n ≤ 4611686018427387904
      all_goals
        go_enter Try.func91, Try.ntmps91
        go_wp2_with fail
        refine (isName_any s _).mono ?_
        rintro e w2 ⟨rfl, h2⟩
        have H2 := HB.out.1 w2 h2
        have C2 := HB.out.2 w2 h2
        clear h2 HB
        rw [hN]
        go_wp2
        go_ret
        exact ⟨ret_bool (by simp [h1, h3]), H2⟩
    · go_enter Try.func91, Try.ntmps91
      go_wp2_with fail
      refine (isName_any s _).mono ?_
      rintro e w2 ⟨rfl, h2⟩
      have H2 := HB.out.1 w2 h2
      have C2 := HB.out.2 w2 h2
      clear h2 HB
      rw [hN]
      go_wp2
      go_ret
      exact ⟨ret_bool (by simp; omega), H2⟩

theorem chkR_drop {l : List D} {j : Nat} {d : D} {bef : ByteArray} (hj : j < l.length) (hd : l[j]'hj = d) : chkR bef (l.drop j) = (dotB d && ltA bef d.1 && chkR d.1 (l.drop (j + 1))) := by
  rw [List.drop_eq_getElem_cons hj, hd]; rfl
theorem lt_str {a b : ByteArray} : (Op.bytesLess a.toList b.toList || a.toList == b.toList) = !ltA b a := by
  cases h : ltA b a with
  | true =>
    have h1 := lt_asym ordA h
    have h2 := lt_ne ordA h
    have h1' : Op.bytesLess a.toList b.toList = false := h1
    rw [h1']
    simp only [Bool.false_or, Bool.not_true, beq_eq_false_iff_ne]
    exact fun e => h2 (toList_inj e).symm
  | false =>
    cases h1 : Op.bytesLess a.toList b.toList with
    | true => rfl
    | false =>
      have := ordA.tri b a h h1
      subst this
      simp

set_option maxRecDepth 100000 in
set_option maxHeartbeats 1600000 in
theorem right_any {A : Option Addr} {l : List D} (c : Nat) {w : World} (hr : RowD w w.heap.size A l) (hl : l.length ≤ 10000000000000) : Calls Try.prog 70 #[.slice A l.length c] w fun e w' => e = .returned (.bool (rightB l)) ∧ Below w.heap.size w w' := by
  by_cases h64 : l.length ≤ 64
  · have hR : rightB l = chkR ByteArray.empty l := by unfold rightB; simp [h64]
    rw [hR]
    have HR := Lib.hid hr
    clear hr hR hl
    go_enter Try.func70, Try.ntmps70
    go_wp2
    refine wp_scope_straight ?_
    go_wp2
    refine wp_label ?_
    go_wp2
    go_loopg [3, 4, 12] l.length (fun k g b i wr => ∃ (j : Nat) (bef : ByteArray), j ≤ l.length ∧ k = l.length - j ∧ g = .int .i64 j ∧ b = .string bef ∧ i = .int .i64 j ∧ Hid (chkR bef (l.drop j) = chkR ByteArray.empty l) ∧ Below w.heap.size w wr)
    case atStart => exact ⟨0, _, by omega, by omega, rfl, rfl, rfl, rfl, Below.refl _ w⟩
    case round =>
      obtain ⟨j, bef, hj, hgk, rfl, rfl, rfl, hchk, hbw⟩ := hrel
      have HGK := Lib.hid hgk; clear hgk
      by_cases hlt : j < l.length
      · obtain ⟨b, off, rfl, hbs, c0, c1⟩ := HR.out.at j hlt
        obtain ⟨⟨s, n⟩, hd⟩ : ∃ d, l[j]'hlt = d := ⟨_, rfl⟩
        rw [hd] at c0 c1
        have g0 := (hbw.cell hbs).trans c0
        have g1 := (hbw.cell (p := ⟨b, off + j * 2 + 1, none⟩) hbs).trans c1
        clear c0 c1
        simp only at g0 g1
        have hk := Lib.hid (chkR_drop (bef := bef) hlt hd)
        have HBW := Lib.hid hbw
        obtain ⟨N, hN⟩ : ∃ N, dotB (s, n) = N := ⟨_, rfl⟩
        obtain ⟨L, hL⟩ : ∃ L, ltA bef s = L := ⟨_, rfl⟩
        have hleq : (Op.bytesLess s.toList bef.toList || s.toList == bef.toList) = !L := by rw [lt_str, hL]
        have hsz := hbw.size
        clear hbw
        have hne : (((j : Nat) : Int) == ((l.length : Nat) : Int)) = false := by rw [beq_eq_false_iff_ne]; omega
        go_wp2_with fail
        refine (rightDot_any s n _).mono ?_
        rintro e w2 ⟨rfl, h2⟩
        rw [hN]
        have HB2 := Lib.hid ((HBW.out.trans (((Below.refl _ wr).alloc (Nat.le_refl _) (.cells #[.string s, .int .i64 n] 23)).mono hsz)).trans (h2.mono (by simp; omega)))
        have e0 : w2.cell? ⟨wr.heap.size, 0, none⟩ = some (.string s) := (h2.cell (p := ⟨wr.heap.size, 0, none⟩) (by simp)).trans (by simp [go_sem])
        clear h2 g0 g1 HBW
        cases N with
        | false =>
          have hf := Lib.hid (show chkR ByteArray.empty l = false by rw [← hchk.out, hk.out, hN]; rfl)
          go_wp2
          unfold Exit.noGoto
          dsimp only
          go_ret
          exact ⟨ret_bool (by rw [hf.out]), HB2.out⟩
        | true =>
          cases L with
          | false =>
            have hf := Lib.hid (show chkR ByteArray.empty l = false by rw [← hchk.out, hk.out, hL]; simp)
            go_wp2
            unfold Exit.noGoto
            dsimp only
            go_ret
            exact ⟨ret_bool (by rw [hf.out]), HB2.out⟩
          | true =>
            have hc2 := Lib.hid (show chkR s (l.drop (j + 1)) = chkR ByteArray.empty l by rw [← hchk.out, hk.out, hL, hN]; simp)
            go_wp2
            go_roundg (l.length - (j + 1))
            case rel => exact ⟨j + 1, s, by omega, rfl, by go_num, rfl, by go_num, hc2, HB2.out⟩
            case measure => have := HGK.out; omega
      · have hin : j = l.length := by omega
        subst hin
        have hf := Lib.hid (show chkR ByteArray.empty l = true by rw [← hchk.out, List.drop_eq_nil_of_le (Nat.le_refl _)]; rfl)
        go_wp2
        unfold Exit.noGoto
        dsimp only
        go_ret
        exact ⟨ret_bool (by rw [hf.out]), hbw⟩
  · have hf := Lib.hid (show rightB l = false by unfold rightB; simp [h64])
    have g2 : ((l.length : Nat) : Int) > 64 := by omega
    go_enter Try.func70, Try.ntmps70
    go_wp2
    refine wp_scope_straight ?_
    go_wp2
    unfold Exit.noGoto
    dsimp only
    go_ret
    exact ⟨ret_bool hf.out.symm, Below.refl _ w⟩

theorem at_drop {l : List D} {j : Nat} {d : D} (x : ByteArray) (hj : j < l.length) (hd : l[j]'hj = d) : at' (l.drop j) x = if d.1 = x then d.2 else at' (l.drop (j + 1)) x := by
  rw [List.drop_eq_getElem_cons hj, hd]; rfl
theorem eq_str {a b : ByteArray} : (a.toList == b.toList) = decide (a = b) := by
  rw [Bool.eq_iff_iff, beq_iff_eq, decide_eq_true_iff]
  exact ⟨toList_inj, fun h => by rw [h]⟩
set_option maxRecDepth 100000 in
set_option maxHeartbeats 1600000 in
theorem at_any {A : Option Addr} {l : List D} (c : Nat) (x : ByteArray) {w : World} (hr : RowD w w.heap.size A l) (hl : l.length ≤ 10000000000000) : Calls Try.prog 71 #[.slice A l.length c, .string x] w fun e w' => e = .returned (.int .i64 (at' l x)) ∧ Below w.heap.size w w' := by
  obtain ⟨L, hL⟩ : ∃ L, l.length = L := ⟨_, rfl⟩
  rw [hL] at hl ⊢
  have HR := Lib.hid hr
  clear hr
  go_enter Try.func71, Try.ntmps71
  go_wp2
  go_loopg [9] L (fun k i wr => ∃ (j : Nat), j ≤ L ∧ k = L - j ∧ i = .int .i64 j ∧ Hid (at' (l.drop j) x = at' l x) ∧ Below w.heap.size w wr)
  case atStart => exact ⟨0, by omega, by omega, rfl, rfl, Below.refl _ w⟩
  case round =>
    obtain ⟨j, hj, hgk, rfl, hat, hbw⟩ := hrel
    have HGK := Lib.hid hgk; clear hgk
    by_cases hlt : j < L
    · have hlt' : j < l.length := by rw [hL]; exact hlt
      obtain ⟨b, off, rfl, hbs, c0, c1⟩ := HR.out.at j hlt'
      obtain ⟨⟨s, n⟩, hd⟩ : ∃ d, l[j]'hlt' = d := ⟨_, rfl⟩
      rw [hd] at c0 c1
      have g0 := (hbw.cell hbs).trans c0
      have g1 := (hbw.cell (p := ⟨b, off + j * 2 + 1, none⟩) hbs).trans c1
      clear c0 c1
      simp only at g0 g1
      have hk := Lib.hid (at_drop x hlt' hd)
      have HB2 := Lib.hid (hbw.trans ((Below.refl _ wr).alloc hbw.size (.cells #[.string s, .int .i64 n] 23)))
      clear hbw
      obtain ⟨E, hE⟩ : ∃ E, decide (s = x) = E := ⟨_, rfl⟩
      have heq : (s.toList == x.toList) = E := by rw [eq_str, hE]
      cases E with
      | true =>
        have hf := Lib.hid (show at' l x = n by rw [← hat.out, hk.out]; exact if_pos (of_decide_eq_true hE))
        clear hE
        go_wp2
        go_ret
        exact ⟨by rw [hf.out]; rfl, HB2.out⟩
      | false =>
        have hf := Lib.hid (show at' (l.drop (j + 1)) x = at' l x by rw [← hat.out, hk.out]; exact (if_neg (of_decide_eq_false hE)).symm)
        clear hE
        go_wp2
        go_roundg (L - (j + 1))
        case rel => exact ⟨j + 1, by omega, rfl, by go_num, hf, HB2.out⟩
        case measure => have := HGK.out; omega
    · have hin : j = L := by omega
      subst hin
      have hf := Lib.hid (show at' l x = 0 by rw [← hat.out, List.drop_eq_nil_of_le (by omega)]; rfl)
      go_wp2
      go_ret
      exact ⟨by rw [hf.out]; rfl, hbw⟩
end Go.Proofs.Ytdffifkleaekhaa.V
