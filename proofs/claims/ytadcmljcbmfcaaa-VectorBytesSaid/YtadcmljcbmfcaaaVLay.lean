/-
  The program's Lay.
-/
import Derived.Test.YtadcmljcbmfcaaaVGate
import Derived.Test.YtadcmljcbmfcaaaVConcat
namespace Go.Proofs.Ytadcmljcbmfcaaa.V
open Go.RowKit
set_option linter.unusedVariables false
set_option linter.unusedSimpArgs false

def encD (d : D) : List Nat := Wi.M.code d.1.size ++ Wi.byt d.1 ++ Wi.M.code d.2.toNat
def encL (v : List D) : List Nat := (v.map encD).flatten
def encV (v : List D) : List Nat := Wi.M.code v.length ++ encL v
theorem encL_take {v : List D} {j : Nat} {d : D} (hj : j < v.length) (hd : v[j]'hj = d) : encL (v.take (j + 1)) = encL (v.take j) ++ encD d := by
  unfold encL
  rw [List.take_succ_eq_append_getElem hj, hd, List.map_append, List.flatten_append]
  simp
theorem encD_lt {d : D} (h : dotB d = true) : ∀ x ∈ encD d, x < 256 := by
  intro x hx
  obtain ⟨h1, h2, h3⟩ := dotB_iff.1 h
  have := (nameB_pos h1).2
  unfold encD at hx
  rcases List.mem_append.1 hx with hx | hx
  · rcases List.mem_append.1 hx with hx | hx
    · exact Wi.M.code_lt _ (by omega) x hx
    · exact Wi.byt_lt _ x hx
  · exact Wi.M.code_lt _ (by omega) x hx
theorem encL_lt {v : List D} (h : ∀ d ∈ v, dotB d = true) : ∀ x ∈ encL v, x < 256 := by
  intro x hx
  unfold encL at hx
  obtain ⟨l, hl, hx⟩ := List.mem_flatten.1 hx
  obtain ⟨d, hd, rfl⟩ := List.mem_map.1 hl
  exact encD_lt (h d hd) x hx
theorem encD_len {d : D} (h : d.1.size ≤ 24) : (encD d).length ≤ 42 := by
  unfold encD
  simp only [List.length_append, Wi.byt_length]
  have := (Wi.M.code_len d.1.size).2
  have := (Wi.M.code_len d.2.toNat).2
  omega
theorem encV_lt {v : List D} (h : rightB v = true) : ∀ x ∈ encV v, x < 256 := by
  intro x hx
  unfold encV at hx
  have := right_len h
  rcases List.mem_append.1 hx with hx | hx
  · exact Wi.M.code_lt _ (by omega) x hx
  · exact encL_lt (rightB_iff.1 h).2.1 x hx
def layO (b : List Nat) (v : List D) : List Nat × Int := if rightB v = true then (b ++ encV v, 0) else ([], 2)
/-- Bytes that are answered, and an error. -/
def BytR (e : Ending) (w w' : World) (r : List Nat × Int) : Prop := ∃ A c, e = .returned (.tuple #[.slice A r.1.length c, .int .i64 r.2]) ∧ ((∃ g, A = some ⟨g, 0, none⟩ ∧ Wi.OwnB w' w.heap.size g c r.1) ∨ (A = none ∧ c = 0 ∧ r.1 = []))

set_option maxRecDepth 100000 in
set_option maxHeartbeats 3200000 in
theorem lay_any {A A2 : Option Addr} {b : List Nat} {v : List D} (c c2 : Nat) {w : World} (hb : Wi.Row w w.heap.size A b) (hbl : b.length ≤ 140737488351232) (hv : Vc.ok ⟨A2, c2, v⟩ w w.heap.size) : Calls Try.prog 33 #[.slice A b.length c, .slice A2 v.length c2] w fun e w' => BytR e w w' (layO b v) ∧ Below w.heap.size w w' := by
  obtain ⟨M, hM⟩ : ∃ M, v.length = M := ⟨_, rfl⟩
  obtain ⟨bl, hbl2⟩ : ∃ M, b.length = M := ⟨_, rfl⟩
  obtain ⟨R, hR⟩ : ∃ R, rightB v = R := ⟨_, rfl⟩
  obtain ⟨O, hO⟩ : ∃ O, layO b v = O := ⟨_, rfl⟩
  have hO2 : O = if R = true then (b ++ encV v, 0) else ([], 2) := by rw [← hO, ← hR]; rfl
  rw [hO, hM, hbl2]
  have HO2 := Lib.hid hO2
  have HRv := Lib.hid hR
  have HV := Lib.hid hv
  have HM := Lib.hid hM
  have HBL := Lib.hid (And.intro hbl2 hbl)
  have HBR := Lib.hid hb
  clear hO2 hR hv hM hbl2 hbl hb hO
  go_enter Try.func33, Try.ntmps33
  go_wp2_with fail
  rw [← HM.out]
  refine (right_any c2 HV.out.1 HV.out.2.2.2).mono ?_
  rintro e w2 ⟨rfl, hb2⟩
  rw [HRv.out, HM.out]
  have H2 := Lib.hid hb2
  clear hb2
  cases R with
  | false =>
    have HO : Hid (O = ([], 2)) := HO2.out
    go_wp2
    go_ret2
    exact ⟨⟨none, 0, by rw [HO.out]; rfl, .inr ⟨rfl, rfl, by rw [HO.out]⟩⟩, H2.out⟩
  | true =>
    have HO : Hid (O = (b ++ encV v, 0)) := HO2.out
    have hM64 : M ≤ 64 := by rw [← HM.out]; exact right_len HRv.out
    have hwM : IntKind.wrap .u64 (M : Int) = (M : Int) := by rw [IntKind.wrap_u64]; omega
    have HNum := Lib.hid (Wi.number_any none 0 [] M w2 (Wi.Row.none_ _ _ _) (by simp) (by omega))
    go_wp2_with fail
    refine HNum.out.mono ?_
    rintro e w3 ⟨g3, cap3, rfl, own3, hb3⟩
    simp only [List.nil_append] at own3 ⊢
    have H3 := Lib.hid (H2.out.trans (hb3.mono H2.out.size))
    have OW3 := Lib.hid (own3.lower H2.out.size)
    obtain ⟨l3, hl3⟩ : ∃ k, (Wi.M.code M).length = k := ⟨_, rfl⟩
    rw [hl3]
    have HL3 : Hid (l3 ≤ 9) := by show l3 ≤ 9; rw [← hl3]; exact (Wi.M.code_len M).2
    have HL3' := Lib.hid hl3
    clear hb3 own3 hl3 HNum
    go_wp2
    go_loopg [6, 18] M (fun k p i wr => ∃ (j g cap ln : Nat) (L : List Nat), j ≤ M ∧ k = M - j ∧ i = .int .i64 j ∧ p = .slice (some ⟨g, 0, none⟩) ln cap ∧ Hid (L.length = ln ∧ ln ≤ 9 + 42 * j ∧ L = Wi.M.code M ++ encL (v.take j)) ∧ Hid (Wi.OwnB wr w.heap.size g cap L) ∧ Hid (Below w.heap.size w wr))
    case atStart => exact ⟨0, g3, cap3, l3, Wi.M.code M, by omega, by omega, rfl, rfl, ⟨HL3'.out, by have := HL3.out; omega, by simp [encL]⟩, OW3, H3⟩
    case round =>
      obtain ⟨j, g, cap, ln, L, hj, hgk, rfl, rfl, hL, hown, hbw⟩ := hrel
      have HGK := Lib.hid hgk; clear hgk
      by_cases hlt : j < M
      · have hlt' : j < v.length := by rw [HM.out]; exact hlt
        obtain ⟨bb, off, hA2, hbs, c0, c1⟩ := HV.out.1.at j hlt'
        simp only at hA2
        subst hA2
        obtain ⟨⟨s, n⟩, hd⟩ : ∃ d, v[j]'hlt' = d := ⟨_, rfl⟩
        rw [hd] at c0 c1
        have hdot := dotB_iff.1 ((rightB_iff.1 HRv.out).2.1 (s, n) (by rw [← hd]; exact List.getElem_mem hlt'))
        have hsz := (nameB_pos hdot.1).2
        simp only at hdot hsz
        obtain ⟨N, rfl⟩ : ∃ N : Nat, n = (N : Int) := ⟨n.toNat, by omega⟩
        have g0 := (hbw.out.cell (p := ⟨bb, off + j * 2, none⟩) hbs).trans c0
        have g1 := (hbw.out.cell (p := ⟨bb, off + j * 2 + 1, none⟩) hbs).trans c1
        simp only at g0 g1
        have henc := encL_take hlt' hd
        have hel : (encD (s, (N : Int))).length ≤ 42 := encD_len hsz
        have heD : encD (s, (N : Int)) = Wi.M.code s.size ++ Wi.byt s ++ Wi.M.code N := rfl
        have hwn : IntKind.wrap .u64 (N : Int) = (N : Int) := by rw [IntKind.wrap_u64]; omega
        obtain ⟨Wd, hWd⟩ : ∃ Wd, wr.alloc (.cells #[.string s, .int .i64 (N : Int)] 24) = Wd := ⟨_, rfl⟩
        have hbd : Below wr.heap.size wr Wd := by rw [← hWd]; exact (Below.refl _ wr).alloc (Nat.le_refl _) _
        have htd : Two Wd wr.heap.size (.string s) (.int .i64 (N : Int)) := by rw [← hWd]; exact Two.new wr _ _
        have HWd := Lib.hid hWd
        have HTd := Lib.hid htd
        have HBd := Lib.hid (hbw.out.trans (hbd.mono hbw.out.size))
        have hod := hown.out.below hbd hown.out.lt.2
        have HOd := Lib.hid hod
        have HText := Lib.hid (Wi.text_any none 0 [] s Wd (Wi.Row.none_ _ _ _) (by simp; omega))
        have e0 := htd.c0
        have HEnc := Lib.hid (And.intro henc (And.intro heD hel))
        have HNlt : Hid (N < 18446744073709551616) := by show N < _; omega
        clear hWd hbd htd hod henc heD hel hdot hd c0 c1
        go_wp2_with fail
        rw [HWd.out]
        refine HText.out.mono ?_
        rintro e w4 ⟨g4, cap4, rfl, own4, hb4⟩
        simp only [List.nil_append] at own4 ⊢
        obtain ⟨x4, hx4⟩ : ∃ x, Wi.M.code s.size ++ Wi.byt s = x := ⟨_, rfl⟩
        rw [hx4] at own4 ⊢
        have hx4lt : ∀ y ∈ x4, y < 256 := by
          rw [← hx4]; intro y hy
          rcases List.mem_append.1 hy with hy | hy
          · exact Wi.M.code_lt _ (by omega) y hy
          · exact Wi.byt_lt _ y hy
        have hEnc2 : encD (s, (N : Int)) = x4 ++ Wi.M.code N := by rw [HEnc.out.2.1, hx4]
        have HEnc2 := Lib.hid hEnc2
        have hx42 : x4.length ≤ 42 := by
          have := HEnc.out.2.2
          rw [hEnc2, List.length_append] at this
          omega
        have HB4 := Lib.hid (HBd.out.trans (hb4.mono HBd.out.size))
        have ho4 := HOd.out.below hb4 HOd.out.lt.2
        obtain ⟨g5, cap5, w5, hap5, own5, hgr5⟩ := ho4.append (some ⟨g4, 0, none⟩) cap4 x4 w4.heap.size (own4.row hx4lt own4.lt.2) 43 (by have := hL.out; omega) HB4.out.size
        rw [hL.out.1] at hap5
        have HB5 := Lib.hid (HB4.out.grown hgr5 HB4.out.size (by rintro k e; cases e; exact ho4.lt.1))
        have htd4 := HTd.out.below hb4 HTd.out.lt
        have hne : (some wr.heap.size : Option Nat) ≠ some g := by
          intro e; injection e with e
          have := hown.out.lt.2; omega
        have htd5 : Two w5 wr.heap.size (.string s) (.int .i64 (N : Int)) := (hgr5.block _ htd4.lt hne).trans htd4
        obtain ⟨l4, hl4⟩ : ∃ k, x4.length = k := ⟨_, rfl⟩
        rw [hl4] at hap5 hx42 ⊢
        have HAP5 := Lib.hid hap5
        have HO5 := Lib.hid own5
        have HL4 := Lib.hid hl4
        have e1 := htd5.c1
        have HNum := Lib.hid (Wi.number_any none 0 [] N w5 (Wi.Row.none_ _ _ _) (by simp) HNlt.out)
        clear hap5 own5 own4 hb4 ho4 hgr5 htd4 htd5 hne hx4 hx4lt hEnc2 e0 HText hl4 HTd HOd HBd
        go_wp2_with (at_builtin; refine Wi.wpList_append_run rfl _ _ _ _ rfl _ _ rfl rfl HAP5.out ?_; clear HAP5)
        refine HNum.out.mono ?_
        rintro e w6 ⟨g6, cap6, rfl, own6, hb6⟩
        simp only [List.nil_append] at own6 ⊢
        have hlen6 := Wi.M.code_len N
        have hlt6 := Wi.M.code_lt N HNlt.out
        have HC6 : Hid (encD (s, (N : Int)) = x4 ++ Wi.M.code N) := HEnc2
        obtain ⟨x6, hx6⟩ : ∃ x, Wi.M.code N = x := ⟨_, rfl⟩
        rw [hx6] at own6 hlen6 hlt6 HC6 ⊢
        have HB6 := Lib.hid (HB5.out.trans (hb6.mono HB5.out.size))
        have ho6 := HO5.out.below hb6 HO5.out.lt.2
        have hl5 : (L ++ x4).length = ln + l4 := by rw [List.length_append, hL.out.1, HL4.out]
        obtain ⟨g7, cap7, w7, hap7, own7, hgr7⟩ := ho6.append (some ⟨g6, 0, none⟩) cap6 x6 w6.heap.size (own6.row hlt6 own6.lt.2) 43 (by have := hL.out; omega) HB6.out.size
        rw [hl5] at hap7
        have HB7 := Lib.hid (HB6.out.grown hgr7 HB6.out.size (by rintro k e; cases e; exact ho6.lt.1))
        obtain ⟨l6, hl6⟩ : ∃ k, x6.length = k := ⟨_, rfl⟩
        rw [hl6] at hap7 ⊢
        have hF : (L ++ x4 ++ x6).length = ln + l4 + l6 ∧ ln + l4 + l6 ≤ 9 + 42 * (j + 1) ∧ L ++ x4 ++ x6 = Wi.M.code M ++ encL (v.take (j + 1)) := by
          refine ⟨by rw [List.length_append, hl5, hl6], ?_, ?_⟩
          · have h1 := HEnc.out.2.2
            rw [HC6.out, List.length_append, HL4.out, hl6] at h1
            have := hL.out.2.1
            omega
          · rw [HEnc.out.1, HC6.out, hL.out.2.2]; simp only [List.append_assoc]
        have HF := Lib.hid hF
        have HAP7 := Lib.hid hap7
        have HO7 := Lib.hid own7
        clear hap7 own7 own6 hb6 ho6 hgr7 hF hl6 hl5 hlt6 hlen6 e1 HNum
        go_wp2_with (at_builtin; refine Wi.wpList_append_run rfl _ _ _ _ rfl _ _ rfl rfl HAP7.out ?_; clear HAP7)
        go_roundg (M - (j + 1))
        case rel => exact ⟨j + 1, g7, cap7, ln + l4 + l6, L ++ x4 ++ x6, by omega, rfl, by go_num, rfl, HF, HO7, HB7⟩
        case measure => have := HGK.out; omega
      · have hin : j = M := by omega
        subst hin
        have hLe : L = encV v := by
          rw [hL.out.2.2, List.take_of_length_le (by have := HM.out; omega)]
          unfold encV; rw [HM.out]
        have hrowL := hown.out.row (by rw [hLe]; exact encV_lt HRv.out) hown.out.lt.2
        have hrowB := (HBR.out.below hbw.out).more hbw.out.size
        have h0 : 0 < L.length := by
          rw [hLe]; unfold encV; rw [List.length_append]
          have := (Wi.M.code_len v.length).1
          omega
        have hcc := Wi.concat_new wr [(A, c, b), (some ⟨g, 0, none⟩, cap, L)] 2 #[.slice A b.length c, .slice (some ⟨g, 0, none⟩) L.length cap] rfl rfl (by
          intro p hp
          simp only [List.mem_cons, List.not_mem_nil, or_false] at hp
          rcases hp with rfl | rfl
          · exact hrowB
          · exact hrowL) (by decide) (by simp only [Wi.cat, List.map_cons, List.map_nil, List.flatten_cons, List.flatten_nil, List.append_nil, List.length_append]; omega) (by
          simp only [Wi.cat, List.map_cons, List.map_nil, List.flatten_cons, List.flatten_nil, List.append_nil, List.length_append]
          have := hL.out.1; have := hL.out.2.1; have := HBL.out.2; omega)
        have hcat : Wi.cat [(A, c, b), (some ⟨g, 0, none⟩, cap, L)] = b ++ encV v := by simp [Wi.cat, hLe]
        rw [hcat, hL.out.1, HBL.out.1] at hcc
        have HCC := Lib.hid hcc
        clear hcc hcat hrowL hrowB h0 hLe
        go_wp2_with fail
        refine HCC.out.mono ?_
        rintro e w9 ⟨g9, cap9, rfl, own9, hb9⟩
        obtain ⟨l9, hl9⟩ : ∃ k, (b ++ encV v).length = k := ⟨_, rfl⟩
        rw [hl9]
        have HL9 := Lib.hid hl9
        have HO9 := Lib.hid (own9.lower hbw.out.size)
        have HB9 := Lib.hid (hbw.out.trans (hb9.mono hbw.out.size))
        clear hl9 own9 hb9 HCC
        go_wp2
        go_ret2
        exact ⟨⟨_, cap9, by rw [HO.out, HL9.out]; rfl, .inl ⟨g9, rfl, by rw [HO.out]; exact HO9.out⟩⟩, HB9.out⟩
end Go.Proofs.Ytadcmljcbmfcaaa.V
