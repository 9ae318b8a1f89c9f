/-
  The reference's Lack.
-/
import Derived.Test.YtadcmljcbmfcaaaVRJoin
namespace Go.Proofs.Ytadcmljcbmfcaaa.V
open Go.RowKit
set_option linter.unusedVariables false
set_option linter.unusedSimpArgs false

theorem lackV_drop {a b : List D} {j : Nat} {d : D} (hj : j < b.length) (hd : b[j]'hj = d) : lackV a (b.drop j) = if at' a d.1 < d.2 then (d.1, at' a d.1 + 1, d.2) :: lackV a (b.drop (j + 1)) else lackV a (b.drop (j + 1)) := by
  rw [List.drop_eq_getElem_cons hj, hd]
  obtain ⟨w, m⟩ := d
  exact lackV_cons a w m _
set_option maxRecDepth 100000 in
set_option maxHeartbeats 3200000 in
theorem rlack_any {A A2 : Option Addr} {a b : List D} (c c2 : Nat) {w : World} (hra : Vc.ok ⟨A, c, a⟩ w w.heap.size) (hla : a.length ≤ 10000000000000) (hfa : Fit a) (hrb : Vc.ok ⟨A2, c2, b⟩ w w.heap.size) (hlb : b.length ≤ 10000000000000) (hfb : Fit b) : Calls Try.prog 27 #[.slice A a.length c, .slice A2 b.length c2] w fun e w' => SpaR e w' (lackO a b) ∧ Below w.heap.size w w' := by
  obtain ⟨L, hL⟩ : ∃ L, a.length = L := ⟨_, rfl⟩
  obtain ⟨M, hM⟩ : ∃ L, b.length = L := ⟨_, rfl⟩
  obtain ⟨R, hR⟩ : ∃ R, rightB a = R := ⟨_, rfl⟩
  obtain ⟨S, hS⟩ : ∃ R, rightB b = R := ⟨_, rfl⟩
  obtain ⟨J, hJ⟩ : ∃ J, lackV a b = J := ⟨_, rfl⟩
  obtain ⟨O, hO⟩ : ∃ O, lackO a b = O := ⟨_, rfl⟩
  have hO2 : O = if (R && S) = true then (J, 0) else ([], 2) := by rw [← hO, ← hR, ← hS, ← hJ]; rfl
  rw [hO]
  have HO2 := Lib.hid hO2
  have HJ := Lib.hid hJ
  rw [hL, hM]
  have HRv := Lib.hid hR
  have HSv := Lib.hid hS
  have HA := Lib.hid (And.intro hra (And.intro hla hfa))
  have HB := Lib.hid (And.intro hrb (And.intro hlb hfb))
  clear hR hS hra hrb hla hlb hfa hfb hO2 hJ hO
  go_enter Try.func27, Try.ntmps27
  go_wp2_with fail
  rw [← hL, ← hM]
  refine (rright_any c HA.out.1.1 HA.out.2.1 HA.out.2.2).mono ?_
  rintro e wa ⟨rfl, hba⟩
  rw [HRv.out, hL, hM]
  have HBA := Lib.hid hba
  clear hba
  go_wp2_with fail
  rw [← hL, ← hM]
  refine (rright_any c2 (HB.out.1.1.up HBA.out) HB.out.2.1 HB.out.2.2).mono ?_
  rintro e wb ⟨rfl, hbb⟩
  rw [HSv.out, hL, hM]
  have HBB := Lib.hid (HBA.out.trans (hbb.mono HBA.out.size))
  have HL := Lib.hid hL
  have HM := Lib.hid hM
  clear hbb hL hM
  cases R with
  | false =>
    have HO : Hid (O = ([], 2)) := HO2.out
    go_wp2
    go_ret2
    exact ⟨⟨none, 0, by rw [HO.out]; rfl, by rw [HO.out]; exact ⟨nil_okS _ _, by simp⟩⟩, HBB.out⟩
  | true =>
    cases S with
    | false =>
      have HO : Hid (O = ([], 2)) := HO2.out
      go_wp2
      go_ret2
      exact ⟨⟨none, 0, by rw [HO.out]; rfl, by rw [HO.out]; exact ⟨nil_okS _ _, by simp⟩⟩, HBB.out⟩
    | true =>
      have hM64 : M ≤ 64 := by rw [← HM.out]; exact right_len HSv.out
      have HO : Hid (O = (J, 0)) := HO2.out
      go_wp2
      go_loopg [8, 9] M (fun k p i wr => ∃ (j : Nat) (A3 : Option Addr) (c3 ol : Nat) (o : List T), j ≤ M ∧ k = M - j ∧ i = .int .i64 j ∧ p = .slice A3 ol c3 ∧ Hid (o.length = ol ∧ ol ≤ j ∧ o ++ lackV a (b.drop j) = J) ∧ Hid (GrS wr w.heap.size A3 c3 o) ∧ Hid (Below w.heap.size w wr))
      case atStart => exact ⟨0, none, 0, 0, [], by omega, by omega, rfl, rfl, ⟨rfl, by omega, HJ.out⟩, GrS.nil _ _, HBB⟩
      case round =>
        obtain ⟨j, A3, c3, ol, o, hj, hgk, rfl, rfl, ho, hgr, hbw⟩ := hrel
        have HGK := Lib.hid hgk; clear hgk
        by_cases hlt : j < M
        · have hlt' : j < b.length := by rw [HM.out]; exact hlt
          obtain ⟨bb, off, rfl, hbs, c0, c1⟩ := HB.out.1.1.at j hlt'
          obtain ⟨⟨s, n⟩, hd⟩ : ∃ d, b[j]'hlt' = d := ⟨_, rfl⟩
          rw [hd] at c0 c1
          have g0 := (hbw.out.cell (p := ⟨bb, off + j * 2, none⟩) hbs).trans c0
          have g1 := (hbw.out.cell (p := ⟨bb, off + j * 2 + 1, none⟩) hbs).trans c1
          simp only at g0 g1
          obtain ⟨Z, hZ⟩ : ∃ Z, at' a s = Z := ⟨_, rfl⟩
          have hZ0 : 0 ≤ Z ∧ Z ≤ 4611686018427387904 := by rw [← hZ]; exact ⟨right_at HRv.out s, right_le HRv.out s⟩
          have hk := lackV_drop (a := a) hlt' hd
          simp only at hk
          rw [hZ] at hk
          have HRA := Lib.hid ((HA.out.1.1).up hbw.out)
          have HZ := Lib.hid hZ
          clear hZ hd c0 c1
          by_cases hlz : Z < n
          · have HO5 : Hid ((o ++ [(s, Z + 1, n)]).length = ol + 1 ∧ ol + 1 ≤ j + 1 ∧ (o ++ [(s, Z + 1, n)]) ++ lackV a (b.drop (j + 1)) = J) := by
              refine ⟨by rw [List.length_append, ho.out.1]; rfl, by have := ho.out.2.1; omega, ?_⟩
              have := ho.out.2.2
              rw [hk, if_pos hlz] at this
              rw [List.append_assoc]; exact this
            have hw : IntKind.wrap .i64 (Z + 1) = Z + 1 := by rw [IntKind.wrap_i64]; omega
            have hw2 : wrap64 (Z + 1) = Z + 1 := by unfold wrap64; omega
            have hbd : Below wr.heap.size wr wr.drew := (Below.refl _ _).drew
            have HBD0 := Lib.hid (hbw.out.trans (hbd.mono hbw.out.size))
            have HGD0 := Lib.hid (hgr.out.below hbd (Nat.le_refl _))
            have HS0 : Hid (wr.drew.cell? ⟨bb, off + j * 2, none⟩ = some (.string s) ∧ wr.drew.cell? ⟨bb, off + j * 2 + 1, none⟩ = some (.int .i64 n)) := ⟨g0, g1⟩
            clear hk hbd hZ0
            go_wp2_with fail
            rw [← HL.out]
            refine (rat_any c s (HRA.out) HA.out.2.1).mono ?_
            rintro e w9 ⟨rfl, hw9⟩
            rw [HZ.out, HL.out]
            obtain rfl := hw9
            go_upto_region 11 with fail
            refine wp_region_held_drew (S := fun Wv => (Wv.cell? ⟨bb, off + j * 2, none⟩ = some (.string s) ∧ Wv.cell? ⟨bb, off + j * 2 + 1, none⟩ = some (.int .i64 n))) (by kernel_rfl) HS0.out (fun hS => ?_)
            clear g0 g1
            generalize wr.drew = wd at *
            have HBD := HBD0
            obtain ⟨A5, c5, w5, hap, gr5, bl5, _, _, _⟩ := HGD0.out.one (s, Z + 1, n) 35 (by have := ho.out.1; have := ho.out.2.1; omega) HBD.out.size
            rw [ho.out.1] at hap
            simp only at hap
            have HAP := Lib.hid hap
            have HG5 := Lib.hid gr5
            have HB5 := Lib.hid (HBD.out.trans bl5)
            have HS5 : Hid (w5.cell? ⟨bb, off + j * 2, none⟩ = some (.string s) ∧ w5.cell? ⟨bb, off + j * 2 + 1, none⟩ = some (.int .i64 n)) := ⟨(bl5.cell (p := ⟨bb, off + j * 2, none⟩) hbs).trans HS0.out.1, (bl5.cell (p := ⟨bb, off + j * 2 + 1, none⟩) hbs).trans HS0.out.2⟩
            clear hap gr5 bl5 HGD0 HBD0
            refine wpAnyH_take (i := 0) (v := ?_) rfl (by kernel_rfl) (by kernel_rfl) (by kernel_rfl) (fun _ _ _ h => h) (Yields.yieldsIf (Or.inl ⟨by kernel_rfl, ?_⟩)) hS ?_
            rotate_left
            · first | (intro w; go_simp; done) | (intro w; go_simp; with_reducible rfl)
            refine wpAnyH_take (i := 1) (v := ?_) rfl (by kernel_rfl) (by kernel_rfl) (by kernel_rfl) (fun _ _ _ h => h) (Yields.yieldsIf (Or.inl ⟨by kernel_rfl, ?_⟩)) hS ?_
            rotate_left
            · first | (intro w; go_simp; done) | (intro w; go_simp; with_reducible rfl)
            refine wpAnyH_take (i := 2) (v := ?_) rfl (by kernel_rfl) (by kernel_rfl) (by kernel_rfl) (fun _ _ _ h => h) (Yields.yieldsIf (Or.inl ⟨by kernel_rfl, ?_⟩)) hS ?_
            rotate_left
            · first | (intro w; go_simp; done) | (intro w; go_simp; with_reducible rfl)
            refine wpAnyH_take (i := 3) (v := ?_) rfl (by kernel_rfl) (by kernel_rfl) (by kernel_rfl) (fun _ _ _ h => h) (Yields.yieldsIf (Or.inl ⟨by kernel_rfl, ?_⟩)) hS ?_
            rotate_left
            · first | (intro w; go_simp; done) | (intro w; go_simp; with_reducible rfl)
            refine wpAnyH_take (i := 4) (v := ?_) rfl (by kernel_rfl) (by kernel_rfl) (by kernel_rfl) (fun _ _ _ h => h) (Yields.yieldsIf (Or.inl ⟨by kernel_rfl, ?_⟩)) hS ?_
            rotate_left
            · first | (intro w; go_simp; done) | (intro w; go_simp; with_reducible rfl)
            refine wpAnyH_take (i := 5) (v := ?_) rfl (by kernel_rfl) (by kernel_rfl) (by kernel_rfl) (fun _ _ _ h => h) (Or.inl ⟨by kernel_rfl, fun W hW => ?_⟩) hS ?_
            rotate_left
            · obtain ⟨g0, g1⟩ := hW
              first | (go_simp; done) | (go_simp; with_reducible rfl)
            refine wpAnyH_take (i := 6) (v := ?_) rfl (by kernel_rfl) (by kernel_rfl) (by kernel_rfl) (fun _ _ _ h => h) (Yields.yieldsIf (Or.inl ⟨by kernel_rfl, ?_⟩)) hS ?_
            rotate_left
            · first | (intro w; go_simp; done) | (intro w; go_simp; with_reducible rfl)
            refine wpAnyH_take (i := 7) (v := ?_) rfl (by kernel_rfl) (by kernel_rfl) (by kernel_rfl) (fun _ _ _ h => h) (Yields.yieldsIf (Or.inl ⟨by kernel_rfl, ?_⟩)) hS ?_
            rotate_left
            · first | (intro w; go_simp; done) | (intro w; go_simp; with_reducible rfl)
            refine wpAnyH_take (i := 8) (v := ?_) rfl (by kernel_rfl) (by kernel_rfl) (by kernel_rfl) (fun _ _ _ h => h) (Yields.yieldsIf (Or.inl ⟨by kernel_rfl, ?_⟩)) hS ?_
            rotate_left
            · first | (intro w; go_simp; done) | (intro w; go_simp; with_reducible rfl)
            refine wpAnyH_take (i := 9) (v := ?_) rfl (by kernel_rfl) (by kernel_rfl) (by kernel_rfl) (fun _ _ _ h => h) (Yields.yieldsIf (Or.inl ⟨by kernel_rfl, ?_⟩)) hS ?_
            rotate_left
            · first | (intro w; go_simp; done) | (intro w; go_simp; with_reducible rfl)
            refine wpAnyH_take (i := 10) (v := ?_) rfl (by kernel_rfl) (by kernel_rfl) (by kernel_rfl) (fun _ _ _ h => h) (Yields.yieldsIf (Or.inl ⟨by kernel_rfl, ?_⟩)) hS ?_
            rotate_left
            · first | (intro w; go_simp; done) | (intro w; go_simp; with_reducible rfl)
            refine wpAnyH_take (i := 11) (v := ?_) rfl (by kernel_rfl) (by kernel_rfl) (by kernel_rfl) (fun _ _ _ h => h) (Yields.yieldsIf (Or.inl ⟨by kernel_rfl, ?_⟩)) hS ?_
            rotate_left
            · first | (intro w; go_simp; done) | (intro w; go_simp; with_reducible rfl)
            refine wpAnyH_take (i := 12) (v := ?_) rfl (by kernel_rfl) (by kernel_rfl) (by kernel_rfl) (fun _ _ _ h => h) (Or.inl ⟨by kernel_rfl, fun W hW => ?_⟩) hS ?_
            rotate_left
            · obtain ⟨g0, g1⟩ := hW
              first | (go_simp; done) | (go_simp; with_reducible rfl)
            refine wpAnyH_take (i := 13) (v := ?_) rfl (by kernel_rfl) (by kernel_rfl) (by kernel_rfl) (fun _ _ _ h => h) (Yields.yieldsIf (Or.inl ⟨by kernel_rfl, ?_⟩)) hS ?_
            rotate_left
            · first | (intro w; go_simp; done) | (intro w; go_simp; with_reducible rfl)
            try go_simp
            refine wpAnyH_ready (rs := [14]) (by kernel_rfl) (by simp) ?_
            refine AllReadyH.cons rfl (fun K hK => ?_) AllReadyH.nil
            have hb10 : Below wd.heap.size wd (wd.alloc (.cells #[.string s, .int .i64 (Z + 1), .int .i64 n] 51)) := (Below.refl _ _).alloc (Nat.le_refl _) _
            go_simp
            go_wp2_with fail
            have hS3 : ((wd.alloc (.cells #[.string s, .int .i64 (Z + 1), .int .i64 n] 51)).cell? ⟨bb, off + j * 2, none⟩ = some (.string s) ∧ (wd.alloc (.cells #[.string s, .int .i64 (Z + 1), .int .i64 n] 51)).cell? ⟨bb, off + j * 2 + 1, none⟩ = some (.int .i64 n)) := ⟨(hb10.cell (p := ⟨bb, off + j * 2, none⟩) (by show bb < _; have := HBD.out.size; omega)).trans hS.1, (hb10.cell (p := ⟨bb, off + j * 2 + 1, none⟩) (by show bb < _; have := HBD.out.size; omega)).trans hS.2⟩
            clear hb10
            refine hK.out _ _ hS3 (fun hS => ?_)
            clear hK K hS3
            try go_simp
            refine wpAnyH_ready (rs := [15]) (by kernel_rfl) (by simp) ?_
            refine AllReadyH.cons rfl (fun K hK => ?_) AllReadyH.nil
            refine oper_append_run _ _ _ _ rfl _ _ rfl rfl HAP.out ?_
            go_simp
            have hS3 : (w5.cell? ⟨bb, off + j * 2, none⟩ = some (.string s) ∧ w5.cell? ⟨bb, off + j * 2 + 1, none⟩ = some (.int .i64 n)) := HS5.out
            refine hK.out _ _ hS3 (fun hS => ?_)
            clear hK K hS3
            refine wpAnyH_take (i := 16) (v := ?_) rfl (by kernel_rfl) (by kernel_rfl) (by kernel_rfl) (fun _ _ _ h => h) (Yields.yieldsIf (Or.inl ⟨by kernel_rfl, ?_⟩)) hS ?_
            rotate_left
            · first | (intro w; go_simp; done) | (intro w; go_simp; with_reducible rfl)
            try go_simp
            refine wpAnyH_done (by kernel_rfl) ?_ _
            go_wp2
            go_roundg (M - (j + 1))
            case rel => exact ⟨j + 1, A5, c5, ol + 1, o ++ [(s, Z + 1, n)], by omega, rfl, by go_num, rfl, HO5, HG5, HB5⟩
            case measure => have := HGK.out; omega
          · have HO5 : Hid (o.length = ol ∧ ol ≤ j + 1 ∧ o ++ lackV a (b.drop (j + 1)) = J) := by
              refine ⟨ho.out.1, by have := ho.out.2.1; omega, ?_⟩
              have := ho.out.2.2
              rw [hk, if_neg hlz] at this
              exact this
            clear hk hZ0
            go_wp2_with fail
            rw [← HL.out]
            refine (rat_any c s (HRA.out) HA.out.2.1).mono ?_
            rintro e w9 ⟨rfl, hw9⟩
            rw [HZ.out, HL.out]
            obtain rfl := hw9
            go_wp2
            go_roundg (M - (j + 1))
            case rel => exact ⟨j + 1, A3, c3, ol, o, by omega, rfl, by go_num, rfl, HO5, hgr, hbw⟩
            case measure => have := HGK.out; omega
        · have hin : j = M := by omega
          subst hin
          have hf : Hid (o = J) := by
            have := ho.out.2.2
            rw [List.drop_eq_nil_of_le (by have := HM.out; omega)] at this
            show o = J
            rw [← this]; simp [lackV]
          go_wp2
          go_ret2
          exact ⟨⟨A3, c3, by rw [HO.out, ← hf.out, ho.out.1]; rfl, by rw [HO.out, ← hf.out]; exact ⟨hgr.out.row, by have := ho.out.1; have := ho.out.2.1; show o.length ≤ _; omega⟩⟩, hbw.out⟩
end Go.Proofs.Ytadcmljcbmfcaaa.V
