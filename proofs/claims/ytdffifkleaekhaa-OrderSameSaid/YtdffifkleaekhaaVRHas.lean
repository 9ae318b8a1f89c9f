/-
  The reference's Has, Leq, Same.
-/
import Derived.Test.YtdffifkleaekhaaVWith
namespace Go.Proofs.Ytdffifkleaekhaa.V
open Go.RowKit
set_option linter.unusedVariables false
set_option linter.unusedSimpArgs false

theorem rat_q {A : Option Addr} {l : List D} (c : Nat) (x : ByteArray) {w : World} (hr : RowD w w.heap.size A l) (hl : l.length ≤ 10000000000000) : Calls Try.prog 56 #[.slice A l.length c, .string x] w fun e w' => e = .returned (.int .i64 (at' l x)) ∧ ∃ n, w' = w.drewN n :=
  (rat_any c x hr hl).mono fun _ _ h => ⟨h.1, 0, h.2.symm⟩
theorem rat_v {A : Option Addr} {l : List D} (c : Nat) (x : ByteArray) {V : Int} (hV : at' l x = V) {M : Nat} (hM : l.length = M) {w : World} (hl : l.length ≤ 10000000000000) (hr : RowD w w.heap.size A l) : Calls Try.prog 56 #[.slice A M c, .string x] w fun e w' => e = .returned (.int .i64 V) ∧ ∃ n, w' = w.drewN n := by
  rw [← hV, ← hM]; exact rat_q c x hr hl
theorem RowD.drewN {w : World} {A : Option Addr} {l : List D} (h : RowD w w.heap.size A l) (k : Nat) : RowD (w.drewN k) (w.drewN k).heap.size A l := h.up (below_drewN (Below.refl _ w) k)

set_option maxRecDepth 100000 in
set_option maxHeartbeats 3200000 in
theorem rhas_any {A : Option Addr} {l : List D} (c : Nat) (s : ByteArray) (n : Int) {w : World} (hr : RowD w w.heap.size A l) (hl : l.length ≤ 10000000000000) (hfit : Fit l) (hs : s.size ≤ 9223372036854775807) : Calls Try.prog 57 #[.slice A l.length c, .agg #[.string s, .int .i64 n]] w fun e w' => e = .returned (.bool (hasB l (s, n))) ∧ Below w.heap.size w w' := by
  have hb1 : Below w.heap.size w (w.alloc (.cells #[.string s, .int .i64 n] 23)) := (Below.refl _ w).alloc (Nat.le_refl _) _
  have ht1 : Two (w.alloc (.cells #[.string s, .int .i64 n] 23)) w.heap.size (.string s) (.int .i64 n) := Two.new w _ _
  obtain ⟨L, hL⟩ : ∃ L, l.length = L := ⟨_, rfl⟩
  have HN := Lib.hid hL.symm
  obtain ⟨R, hR⟩ : ∃ R, rightB l = R := ⟨_, rfl⟩
  obtain ⟨Dv, hDv⟩ : ∃ R, dotB (s, n) = R := ⟨_, rfl⟩
  obtain ⟨V, hV⟩ : ∃ V, at' l s = V := ⟨_, rfl⟩
  have hF : hasB l (s, n) = (R && Dv && decide (n ≤ V)) := by unfold hasB; rw [hR, hDv, hV]
  rw [hF, hL]
  have HRv := Lib.hid hR
  have HDv := Lib.hid hDv
  have HAt := Lib.hid hV
  have HFit := Lib.hid (And.intro hfit hs)
  obtain ⟨W1, hW1⟩ : ∃ W1, w.alloc (.cells #[.string s, .int .i64 n] 23) = W1 := ⟨_, rfl⟩
  have HWE := Lib.hid hW1
  rw [hW1] at hb1 ht1
  have HRow : Hid (∀ W, Below W1.heap.size W1 W → RowD W W.heap.size A l ∧ l.length ≤ 10000000000000) := fun W hW => ⟨(hr.up hb1).up hW, hl⟩
  have HC : Hid (∀ W, Below W1.heap.size W1 W → W.cell? ⟨w.heap.size, 0, none⟩ = some (.string s) ∧ W.cell? ⟨w.heap.size, 1, none⟩ = some (.int .i64 n)) := fun W hW => ⟨(ht1.below hW ht1.lt).c0, (ht1.below hW ht1.lt).c1⟩
  have HW1 : Hid (∀ W, Below W1.heap.size W1 W → Below w.heap.size w W) := fun W hW => hb1.trans (hW.mono hb1.size)
  clear hF hR hDv hV hfit hs hW1 hb1 ht1 hr hl hL
  go_enter Try.func57, Try.ntmps57
  go_wp2_with fail
  rw [HWE.out, HN.out]
  refine (rright_any c (HRow.out _ (Below.refl _ _)).1 (HRow.out _ (Below.refl _ _)).2 HFit.out.1).mono ?_
  rintro e wa ⟨rfl, hba⟩
  rw [HRv.out]
  have HA := Lib.hid hba
  obtain ⟨c0, c1⟩ := HC.out _ hba
  clear hba
  go_wp2_with fail
  refine (risDot_any s n _ HFit.out.2).mono ?_
  rintro e wb ⟨rfl, hbb⟩
  rw [HDv.out]
  have HB := Lib.hid (HA.out.trans (hbb.mono HA.out.size))
  clear hbb c0 c1
  obtain ⟨c0, c1⟩ := HC.out _ HB.out
  have HRB := Lib.hid (HRow.out _ HB.out)
  cases R with
  | false =>
    have HF : Hid ((false : Bool) = (false && Dv && decide (n ≤ V))) := by show _ = _; simp
    go_upto_region 3 with fail
    go_quiet (fail)
    go_wp2
    go_ret
    exact ⟨ret_bool HF.out, HW1.out _ (below_drewN HB.out _)⟩
  | true =>
    cases Dv with
    | false =>
      have HF : Hid ((false : Bool) = (true && false && decide (n ≤ V))) := by show _ = _; simp
      go_upto_region 3 with fail
      go_quiet (fail)
      go_wp2
      go_ret
      exact ⟨ret_bool HF.out, HW1.out _ (below_drewN HB.out _)⟩
    | true =>
      have HF : Hid (decide (n ≤ V) = (true && true && decide (n ≤ V))) := by show _ = _; simp
      go_upto_region 3 with fail
      go_quiet (first | (refine Calls.quiet_of (rat_v c s HAt.out rfl HRB.out.2 ?_); exact RowD.drewN HRB.out.1 _))
      go_wp2
      go_ret
      exact ⟨ret_bool HF.out, HW1.out _ (below_drewN HB.out _)⟩

theorem leqV_drop {a b : List D} {j : Nat} {d : D} (hj : j < a.length) (hd : a[j]'hj = d) : leqV (a.drop j) b = (decide (d.2 ≤ at' b d.1) && leqV (a.drop (j + 1)) b) := by
  rw [List.drop_eq_getElem_cons hj, hd]; rfl

set_option maxRecDepth 100000 in
set_option maxHeartbeats 3200000 in
theorem rleq_any {A A2 : Option Addr} {a b : List D} (c c2 : Nat) {w : World} (hra : RowD w w.heap.size A a) (hla : a.length ≤ 10000000000000) (hfa : Fit a) (hrb : RowD w w.heap.size A2 b) (hlb : b.length ≤ 10000000000000) (hfb : Fit b) : Calls Try.prog 33 #[.slice A a.length c, .slice A2 b.length c2] w fun e w' => e = .returned (.bool (leqB a b)) ∧ Below w.heap.size w w' := by
  obtain ⟨L, hL⟩ : ∃ L, a.length = L := ⟨_, rfl⟩
  obtain ⟨M, hM⟩ : ∃ L, b.length = L := ⟨_, rfl⟩
  have HN := Lib.hid (And.intro hL.symm hM.symm)
  obtain ⟨R, hR⟩ : ∃ R, rightB a = R := ⟨_, rfl⟩
  obtain ⟨S, hS⟩ : ∃ R, rightB b = R := ⟨_, rfl⟩
  obtain ⟨V, hV⟩ : ∃ V, leqV a b = V := ⟨_, rfl⟩
  have hF : leqB a b = (R && S && V) := by unfold leqB; rw [hR, hS, hV]
  have HV := Lib.hid hV
  rw [hF, hL, hM]
  have HRv := Lib.hid hR
  have HSv := Lib.hid hS
  have HA := Lib.hid (And.intro hra (And.intro hla hfa))
  have HB := Lib.hid (And.intro hrb (And.intro hlb hfb))
  clear hF hR hS hV hra hrb hla hlb hfa hfb
  go_enter Try.func33, Try.ntmps33
  go_wp2_with fail
  rw [← hL, ← hM]
  refine (rright_any c HA.out.1 HA.out.2.1 HA.out.2.2).mono ?_
  rintro e wa ⟨rfl, hba⟩
  rw [HRv.out, hL, hM]
  have HBA := Lib.hid hba
  clear hba
  go_wp2_with fail
  rw [← hL, ← hM]
  refine (rright_any c2 (HB.out.1.up HBA.out) HB.out.2.1 HB.out.2.2).mono ?_
  rintro e wb ⟨rfl, hbb⟩
  rw [HSv.out, hL, hM]
  have HBB := Lib.hid (HBA.out.trans (hbb.mono HBA.out.size))
  clear hbb
  cases R with
  | false =>
    go_wp2
    go_ret
    exact ⟨ret_bool (by simp), HBB.out⟩
  | true =>
    cases S with
    | false =>
      go_wp2
      go_ret
      exact ⟨ret_bool (by simp), HBB.out⟩
    | true =>
      have hLs : L ≤ 64 := by rw [← hL]; exact right_len HRv.out
      have HL := Lib.hid hL
      have HM := Lib.hid hM
      clear hL hM
      go_wp2
      go_loopg [7] L (fun k i wr => ∃ (j : Nat), j ≤ L ∧ k = L - j ∧ i = .int .i64 j ∧ Hid (leqV (a.drop j) b = V) ∧ Below w.heap.size w wr)
      case atStart => exact ⟨0, by omega, by omega, rfl, HV.out, HBB.out⟩
      case round =>
        obtain ⟨j, hj, hgk, rfl, hat, hbw⟩ := hrel
        have HGK := Lib.hid hgk; clear hgk
        by_cases hlt : j < L
        · have hlt' : j < a.length := by rw [HL.out]; exact hlt
          obtain ⟨bb, off, rfl, hbs, c0, c1⟩ := HA.out.1.at j hlt'
          obtain ⟨⟨s, n⟩, hd⟩ : ∃ d, a[j]'hlt' = d := ⟨_, rfl⟩
          rw [hd] at c0 c1
          have g0 := (hbw.cell hbs).trans c0
          have g1 := (hbw.cell (p := ⟨bb, off + j * 2 + 1, none⟩) hbs).trans c1
          clear c0 c1
          simp only at g0 g1
          have hk := Lib.hid (leqV_drop (b := b) hlt' hd)
          obtain ⟨Z, hZ⟩ : ∃ Z, at' b s = Z := ⟨_, rfl⟩
          have HRB := Lib.hid (HB.out.1.up hbw)
          have HBW := Lib.hid hbw
          clear hbw
          by_cases hle : n ≤ Z
          · have hgt : ¬ Z < n := by omega
            have hf := Lib.hid (show leqV (a.drop (j + 1)) b = V by rw [← hat.out, hk.out]; simp only; rw [hZ]; simp [hle])
            go_upto_region 8 with fail
            go_quiet (first | (refine Calls.quiet_of (rat_v c2 s hZ HM.out HB.out.2.1 ?_); exact RowD.drewN HRB.out _))
            go_wp2
            go_roundg (L - (j + 1))
            case rel => exact ⟨j + 1, by omega, rfl, by go_num, hf, below_drewN HBW.out _⟩
            case measure => have := HGK.out; omega
          · have hgt : Z < n := by omega
            have hf := Lib.hid (show leqV (a.drop j) b = false by rw [hk.out]; simp only; rw [hZ]; simp [hle])
            go_upto_region 8 with fail
            go_quiet (first | (refine Calls.quiet_of (rat_v c2 s hZ HM.out HB.out.2.1 ?_); exact RowD.drewN HRB.out _))
            go_wp2
            go_ret
            exact ⟨ret_bool (by rw [← hat.out, hf.out]), below_drewN HBW.out _⟩
        · have hin : j = L := by omega
          subst hin
          have hf := Lib.hid (show V = true by rw [← hat.out, List.drop_eq_nil_of_le (by have := HL.out; omega)]; rfl)
          go_wp2
          go_ret
          exact ⟨ret_bool (by rw [hf.out]; simp), hbw⟩
end Go.Proofs.Ytdffifkleaekhaa.V
