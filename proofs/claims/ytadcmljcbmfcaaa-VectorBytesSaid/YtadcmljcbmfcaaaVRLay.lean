/-
  The reference's Lay.
-/
import Derived.Test.YtadcmljcbmfcaaaVRWire
import Derived.Test.YtadcmljcbmfcaaaVLay
import Derived.OrdersHeld
import Derived.Deep.RegionHeld
namespace Go.Proofs.Ytadcmljcbmfcaaa.V
open Go.RowKit
set_option linter.unusedVariables false
set_option linter.unusedSimpArgs false

def BytRow (e : Ending) (w' : World) (r : List Nat × Int) : Prop := ∃ A c, e = .returned (.tuple #[.slice A r.1.length c, .int .i64 r.2]) ∧ Wi.Row w' w'.heap.size A r.1

set_option maxRecDepth 100000 in
set_option maxHeartbeats 3200000 in
theorem rlay_any {A A2 : Option Addr} {b : List Nat} {v : List D} (c c2 : Nat) {w : World} (hb : Wi.Row w w.heap.size A b) (hbl : b.length ≤ 140737488351232) (hv : Vc.ok ⟨A2, c2, v⟩ w w.heap.size) (hfit : Fit v) : Calls Try.prog 34 #[.slice A b.length c, .slice A2 v.length c2] w fun e w' => BytRow e w' (layO b v) ∧ Below w.heap.size w w' := by
  obtain ⟨M, hM⟩ : ∃ M, v.length = M := ⟨_, rfl⟩
  obtain ⟨bl, hbl2⟩ : ∃ M, b.length = M := ⟨_, rfl⟩
  obtain ⟨R, hR⟩ : ∃ R, rightB v = R := ⟨_, rfl⟩
  obtain ⟨O, hO⟩ : ∃ O, layO b v = O := ⟨_, rfl⟩
  have hO2 : O = if R = true then (b ++ encV v, 0) else ([], 2) := by rw [← hO, ← hR]; rfl
  rw [hO, hM, hbl2]
  have HO2 := Lib.hid hO2
  have HRv := Lib.hid hR
  have HV := Lib.hid (And.intro hv hfit)
  have HM := Lib.hid hM
  have HBL := Lib.hid (And.intro hbl2 hbl)
  have HBR := Lib.hid hb
  clear hO2 hR hv hM hbl2 hbl hb hO hfit
  go_enter Try.func34, Try.ntmps34
  go_wp2_with fail
  rw [← HM.out]
  refine (rright_any c2 HV.out.1.1 HV.out.1.2.2.2 HV.out.2).mono ?_
  rintro e w2 ⟨rfl, hb2⟩
  rw [HRv.out, HM.out]
  have H2 := Lib.hid hb2
  have RB2 := Lib.hid (HBR.out.up hb2)
  clear hb2
  cases R with
  | false =>
    have HO : Hid (O = ([], 2)) := HO2.out
    go_wp2
    go_ret2
    exact ⟨⟨none, 0, by rw [HO.out]; rfl, by rw [HO.out]; exact Wi.Row.none_ _ _ _⟩, H2.out⟩
  | true =>
    have HO : Hid (O = (b ++ encV v, 0)) := HO2.out
    have hM64 : M ≤ 64 := by rw [← HM.out]; exact right_len HRv.out
    have hwM : IntKind.wrap .u64 (M : Int) = (M : Int) := by rw [IntKind.wrap_u64]; omega
    have hnum := Wi.rnumber_any A c b M w2 RB2.out (by have := HBL.out.2; omega) (by omega)
    rw [HBL.out.1] at hnum
    have HNum := Lib.hid hnum
    have hlt0 : ∀ x ∈ b ++ Wi.M.code M, x < 256 := fun x hx => by
      rcases List.mem_append.1 hx with hx | hx
      · exact RB2.out.1 x hx
      · exact Wi.M.code_lt M (by omega) x hx
    have HLT0 := Lib.hid hlt0
    clear hnum hlt0
    go_wp2_with fail
    refine HNum.out.mono ?_
    rintro e w3 ho3
    obtain ⟨A3, c3, rfl, hr3, hb3⟩ := ho3.made HLT0.out
    have H3 := Lib.hid (H2.out.trans (hb3.mono H2.out.size))
    have R3 := Lib.hid hr3
    obtain ⟨l3, hl3⟩ : ∃ k, (b ++ Wi.M.code M).length = k := ⟨_, rfl⟩
    rw [hl3]
    have HL3 : Hid (l3 ≤ bl + 9) := by
      show l3 ≤ bl + 9
      have := (Wi.M.code_len M).2
      rw [← hl3, List.length_append, HBL.out.1]; omega
    have HL3' := Lib.hid hl3
    clear hb3 hr3 ho3 hl3 HNum
    go_wp2
    go_loopg [7, 8] M (fun k p i wr => ∃ (j : Nat) (A4 : Option Addr) (c4 ln : Nat) (L : List Nat), j ≤ M ∧ k = M - j ∧ i = .int .i64 j ∧ p = .slice A4 ln c4 ∧ Hid (L.length = ln ∧ ln ≤ bl + 9 + 42 * j ∧ L = b ++ Wi.M.code M ++ encL (v.take j)) ∧ Hid (Wi.Row wr wr.heap.size A4 L) ∧ Hid (Below w.heap.size w wr))
    case atStart => exact ⟨0, A3, c3, l3, b ++ Wi.M.code M, by omega, by omega, rfl, rfl, ⟨HL3'.out, by have := HL3.out; omega, by simp [encL]⟩, R3, H3⟩
    case round =>
      obtain ⟨j, A4, c4, ln, L, hj, hgk, rfl, rfl, hL, hrow, hbw⟩ := hrel
      have HGK := Lib.hid hgk; clear hgk
      by_cases hlt : j < M
      · have hlt' : j < v.length := by rw [HM.out]; exact hlt
        obtain ⟨bb, off, hA2, hbs, c0, c1⟩ := HV.out.1.1.at j hlt'
        simp only at hA2
        subst hA2
        obtain ⟨⟨s, n⟩, hd⟩ : ∃ d, v[j]'hlt' = d := ⟨_, rfl⟩
        rw [hd] at c0 c1
        have hdot := dotB_iff.1 ((rightB_iff.1 HRv.out).2.1 (s, n) (by rw [← hd]; exact List.getElem_mem hlt'))
        have hsz := (nameB_pos hdot.1).2
        simp only at hdot hsz
        obtain ⟨Nn, rfl⟩ : ∃ Nn : Nat, n = (Nn : Int) := ⟨n.toNat, by omega⟩
        have HNlt : Hid (Nn < 18446744073709551616) := by show Nn < _; omega
        have hbd : Below wr.heap.size wr wr.drew := (Below.refl _ _).drew
        have HBD0 := Lib.hid (hbw.out.trans (hbd.mono hbw.out.size))
        have g0 := (HBD0.out.cell (p := ⟨bb, off + j * 2, none⟩) hbs).trans c0
        have g1 := (HBD0.out.cell (p := ⟨bb, off + j * 2 + 1, none⟩) hbs).trans c1
        simp only at g0 g1
        have HS0 : Hid (wr.drew.cell? ⟨bb, off + j * 2, none⟩ = some (.string s) ∧ wr.drew.cell? ⟨bb, off + j * 2 + 1, none⟩ = some (.int .i64 (Nn : Int))) := ⟨g0, g1⟩
        have henc := encL_take hlt' hd
        have hel : (encD (s, (Nn : Int))).length ≤ 42 := encD_len hsz
        have heD : encD (s, (Nn : Int)) = Wi.M.code s.size ++ Wi.byt s ++ Wi.M.code Nn := rfl
        have hwn : IntKind.wrap .u64 (Nn : Int) = (Nn : Int) := by rw [IntKind.wrap_u64]; have := HNlt.out; omega
        obtain ⟨l5, hl5⟩ : ∃ k, (L ++ (Wi.M.code s.size ++ Wi.byt s)).length = k := ⟨_, rfl⟩
        obtain ⟨l6, hl6⟩ : ∃ k, (L ++ (Wi.M.code s.size ++ Wi.byt s) ++ Wi.M.code Nn).length = k := ⟨_, rfl⟩
        have hlt5 : ∀ x ∈ L ++ (Wi.M.code s.size ++ Wi.byt s), x < 256 := fun x hx => by
          rcases List.mem_append.1 hx with hx | hx
          · exact hrow.out.1 x hx
          · rcases List.mem_append.1 hx with hx | hx
            · exact Wi.M.code_lt _ (by omega) x hx
            · exact Wi.byt_lt _ x hx
        have hlt6 : ∀ x ∈ L ++ (Wi.M.code s.size ++ Wi.byt s) ++ Wi.M.code Nn, x < 256 := fun x hx => by
          rcases List.mem_append.1 hx with hx | hx
          · exact hlt5 x hx
          · exact Wi.M.code_lt _ HNlt.out x hx
        have hl65 : l6 = ln + (encD (s, (Nn : Int))).length := by
          rw [← hl6, heD, ← hL.out.1]; simp only [List.length_append]; omega
        have hl56 : l5 ≤ l6 := by rw [← hl5, ← hl6]; simp only [List.length_append]; omega
        have HF : Hid ((L ++ (Wi.M.code s.size ++ Wi.byt s) ++ Wi.M.code Nn).length = l6 ∧ l6 ≤ bl + 9 + 42 * (j + 1) ∧ L ++ (Wi.M.code s.size ++ Wi.byt s) ++ Wi.M.code Nn = b ++ Wi.M.code M ++ encL (v.take (j + 1))) := by
          refine ⟨hl6, by have := hL.out.2.1; omega, ?_⟩
          rw [henc, heD, hL.out.2.2]; simp only [List.append_assoc]
        have HLe : Hid (l5 ≤ 199999999999900) := by show l5 ≤ _; have := HF.out.2.1; have := HBL.out.1; have := HBL.out.2; omega
        have HL5 := Lib.hid (And.intro hl5 hlt5)
        have HL6 := Lib.hid (And.intro hl6 hlt6)
        have htext := Wi.rtext_any A4 c4 L s wr.drew (hrow.out.up hbd) (by have := hL.out.1; have := hL.out.2.1; have := HBL.out.1; have := HBL.out.2; omega)
        rw [hL.out.1] at htext
        have HText0 := Lib.hid htext
        clear htext hl5 hl6 hlt5 hlt6 hl65 hl56 henc hel heD hdot hd c0 c1 hbd hsz
        go_upto_region 8 with fail
        refine wp_region_held_drew (S := fun Wv => (Wv.cell? ⟨bb, off + j * 2, none⟩ = some (.string s) ∧ Wv.cell? ⟨bb, off + j * 2 + 1, none⟩ = some (.int .i64 (Nn : Int)))) (by kernel_rfl) HS0.out (fun hS => ?_)
        clear g0 g1
        generalize wr.drew = wd at *
        have HBD := HBD0
        have HText := HText0
        clear HBD0 HText0 HS0
        refine wpAnyH_take (i := 0) (v := ?_) rfl (by kernel_rfl) (by kernel_rfl) (by kernel_rfl) (fun _ _ _ h => h) (Yields.yieldsIf (Or.inl ⟨by kernel_rfl, ?_⟩)) hS ?_
        rotate_left
        · first | (intro w; go_simp; done) | (intro w; go_simp; with_reducible rfl)
        refine wpAnyH_take (i := 1) (v := ?_) rfl (by kernel_rfl) (by kernel_rfl) (by kernel_rfl) (fun _ _ _ h => h) (Yields.yieldsIf (Or.inl ⟨by kernel_rfl, ?_⟩)) hS ?_
        rotate_left
        · first | (intro w; go_simp; done) | (intro w; go_simp; with_reducible rfl)
        refine wpAnyH_take (i := 2) (v := ?_) rfl (by kernel_rfl) (by kernel_rfl) (by kernel_rfl) (fun _ _ _ h => h) (Yields.yieldsIf (Or.inl ⟨by kernel_rfl, ?_⟩)) hS ?_
        rotate_left
        · first | (intro w; go_simp; done) | (intro w; go_simp; with_reducible rfl)
        refine wpAnyH_take (i := 3) (v := ?_) rfl (by kernel_rfl) (by kernel_rfl) (by kernel_rfl) (fun _ _ _ h => h) (Yields.yieldsIf (Or.inl ⟨by kernel_rfl, ?_⟩)) hS ?_
        rotate_left
        · first | (intro w; go_simp; done) | (intro w; go_simp; with_reducible rfl)
        refine wpAnyH_take (i := 4) (v := ?_) rfl (by kernel_rfl) (by kernel_rfl) (by kernel_rfl) (fun _ _ _ h => h) (Yields.yieldsIf (Or.inl ⟨by kernel_rfl, ?_⟩)) hS ?_
        rotate_left
        · first | (intro w; go_simp; done) | (intro w; go_simp; with_reducible rfl)
        refine wpAnyH_take (i := 5) (v := ?_) rfl (by kernel_rfl) (by kernel_rfl) (by kernel_rfl) (fun _ _ _ h => h) (Or.inl ⟨by kernel_rfl, fun W hW => ?_⟩) hS ?_
        rotate_left
        · obtain ⟨g0, g1⟩ := hW
          first | (go_simp; done) | (go_simp; with_reducible rfl)
        refine wpAnyH_take (i := 7) (v := ?_) rfl (by kernel_rfl) (by kernel_rfl) (by kernel_rfl) (fun _ _ _ h => h) (Yields.yieldsIf (Or.inl ⟨by kernel_rfl, ?_⟩)) hS ?_
        rotate_left
        · first | (intro w; go_simp; done) | (intro w; go_simp; with_reducible rfl)
        refine wpAnyH_take (i := 8) (v := ?_) rfl (by kernel_rfl) (by kernel_rfl) (by kernel_rfl) (fun _ _ _ h => h) (Yields.yieldsIf (Or.inl ⟨by kernel_rfl, ?_⟩)) hS ?_
        rotate_left
        · first | (intro w; go_simp; done) | (intro w; go_simp; with_reducible rfl)
        refine wpAnyH_take (i := 9) (v := ?_) rfl (by kernel_rfl) (by kernel_rfl) (by kernel_rfl) (fun _ _ _ h => h) (Yields.yieldsIf (Or.inl ⟨by kernel_rfl, ?_⟩)) hS ?_
        rotate_left
        · first | (intro w; go_simp; done) | (intro w; go_simp; with_reducible rfl)
        refine wpAnyH_take (i := 10) (v := ?_) rfl (by kernel_rfl) (by kernel_rfl) (by kernel_rfl) (fun _ _ _ h => h) (Yields.yieldsIf (Or.inl ⟨by kernel_rfl, ?_⟩)) hS ?_
        rotate_left
        · first | (intro w; go_simp; done) | (intro w; go_simp; with_reducible rfl)
        refine wpAnyH_take (i := 11) (v := ?_) rfl (by kernel_rfl) (by kernel_rfl) (by kernel_rfl) (fun _ _ _ h => h) (Or.inl ⟨by kernel_rfl, fun W hW => ?_⟩) hS ?_
        rotate_left
        · obtain ⟨g0, g1⟩ := hW
          first | (go_simp; done) | (go_simp; with_reducible rfl)
        refine wpAnyH_take (i := 12) (v := ?_) rfl (by kernel_rfl) (by kernel_rfl) (by kernel_rfl) (fun _ _ _ h => h) (Yields.yieldsIf (Or.inl ⟨by kernel_rfl, ?_⟩)) hS ?_
        rotate_left
        · first | (intro w; go_simp; done) | (intro w; go_simp; with_reducible rfl)
        try go_simp
        refine wpAnyH_ready (rs := [6]) (by kernel_rfl) (by simp) ?_
        refine AllReadyH.cons rfl (fun K hK => ?_) AllReadyH.nil
        go_simp
        go_wp2_with fail
        refine HText.out.mono ?_
        rintro e w5 ho5
        obtain ⟨A5, c5, rfl, hr5, hb5⟩ := ho5.made HL5.out.2
        have HB5 := Lib.hid (HBD.out.trans (hb5.mono HBD.out.size))
        have HR5 := Lib.hid hr5
        rw [HL5.out.1]
        have hS3 : (w5.cell? ⟨bb, off + j * 2, none⟩ = some (.string s) ∧ w5.cell? ⟨bb, off + j * 2 + 1, none⟩ = some (.int .i64 (Nn : Int))) := ⟨(hb5.cell (p := ⟨bb, off + j * 2, none⟩) (by show bb < _; have := HBD.out.size; omega)).trans hS.1, (hb5.cell (p := ⟨bb, off + j * 2 + 1, none⟩) (by show bb < _; have := HBD.out.size; omega)).trans hS.2⟩
        have HNum := Lib.hid (Wi.rnumber_any A5 c5 (L ++ (Wi.M.code s.size ++ Wi.byt s)) Nn w5 hr5 (by have := HL5.out.1; have := HLe.out; omega) HNlt.out)
        clear ho5 hr5 hb5 HText
        refine hK.out _ _ hS3 (fun hS => ?_)
        clear hK K hS3
        try go_simp
        refine wpAnyH_ready (rs := [13]) (by kernel_rfl) (by simp) ?_
        refine AllReadyH.cons rfl (fun K hK => ?_) AllReadyH.nil
        have hnum := HNum.out
        rw [HL5.out.1] at hnum
        go_simp
        go_wp2_with fail
        refine hnum.mono ?_
        rintro e w6 ho6
        obtain ⟨A6, c6, rfl, hr6, hb6⟩ := ho6.made HL6.out.2
        have HB6 := Lib.hid (HB5.out.trans (hb6.mono HB5.out.size))
        have HR6 := Lib.hid hr6
        rw [HL6.out.1]
        have hS3 : (w6.cell? ⟨bb, off + j * 2, none⟩ = some (.string s) ∧ w6.cell? ⟨bb, off + j * 2 + 1, none⟩ = some (.int .i64 (Nn : Int))) := ⟨(hb6.cell (p := ⟨bb, off + j * 2, none⟩) (by show bb < _; have := HB5.out.size; omega)).trans hS.1, (hb6.cell (p := ⟨bb, off + j * 2 + 1, none⟩) (by show bb < _; have := HB5.out.size; omega)).trans hS.2⟩
        clear ho6 hr6 hb6 HNum hnum
        refine hK.out _ _ hS3 (fun hS => ?_)
        clear hK K hS3
        refine wpAnyH_take (i := 14) (v := ?_) rfl (by kernel_rfl) (by kernel_rfl) (by kernel_rfl) (fun _ _ _ h => h) (Yields.yieldsIf (Or.inl ⟨by kernel_rfl, ?_⟩)) hS ?_
        rotate_left
        · first | (intro w; go_simp; done) | (intro w; go_simp; with_reducible rfl)
        try go_simp
        refine wpAnyH_done (by kernel_rfl) ?_ _
        go_wp2
        go_roundg (M - (j + 1))
        case rel => exact ⟨j + 1, A6, c6, l6, L ++ (Wi.M.code s.size ++ Wi.byt s) ++ Wi.M.code Nn, by omega, rfl, by go_num, rfl, HF.out, HR6, HB6⟩
        case measure => have := HGK.out; omega
      · have hin : j = M := by omega
        subst hin
        have hLe : Hid (L = b ++ encV v) := by
          show L = _
          rw [hL.out.2.2, List.take_of_length_le (by have := HM.out; omega)]
          unfold encV; rw [HM.out, List.append_assoc]
        go_wp2
        go_ret2
        exact ⟨⟨A4, c4, by rw [HO.out, ← hLe.out, hL.out.1]; rfl, by rw [HO.out, ← hLe.out]; exact hrow.out⟩, hbw.out⟩
end Go.Proofs.Ytadcmljcbmfcaaa.V
