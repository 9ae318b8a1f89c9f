/-
  VectorBack: bytes that came in; the walk of the law.
-/
import Derived.Test.YtadcmljcbmfcaaaVBackMath
namespace Go.Proofs.Ytadcmljcbmfcaaa.V
open Go.ChangeShapes Go.WideShapes Go.ChangeAt Go.RowKit Go.Deep
set_option linter.unusedVariables false
set_option linter.unusedSimpArgs false
theorem openB {H : Type} {enc : TypeId × Value → H} {W : World} {a : Option Addr} {len cap : Nat} {d : DataW H} {p : List MemPlace} (h : DataW.Trod enc Try.prog W 0 (fun _ => true) true 43 (.slice a len cap) d p) :
    ∃ l : List Nat, len = l.length ∧ Wi.Row W W.heap.size a l ∧ (l.length = 0 ∨ ∃ elems spare, d = .slice elems spare ∧ l.length ≤ elems.length + spare.length) ∧ l.length ≤ cap ∧ cap ≤ 9223372036854775807 := by
  obtain ⟨fuel, hf⟩ := h
  rcases open_ints Try.underlying43 Try.underlying5 (by kernel_rfl) hf with ⟨hcs, _⟩ | ⟨x, l, c, zs, hcs, _, hl, hm, hz, hx, hcell, hwz⟩
  · simp [Value.cells] at hcs
    obtain ⟨rfl, rfl, rfl⟩ := hcs
    exact ⟨[], rfl, Wi.Row.none_ _ _ _, .inl rfl, by simp, by omega⟩
  · simp [Value.cells] at hcs
    obtain ⟨rfl, rfl, rfl⟩ := hcs
    simp only [if_true] at hz
    simp only [Prod.mk.injEq] at hx
    have hlen : len = ((zs.take len).map Int.toNat).length := by simp; omega
    have hby : ∀ z ∈ zs, 0 ≤ z ∧ z < 256 := by
      intro z hzm
      have := hwz z hzm
      have := bounds_u8 this
      omega
    refine ⟨(zs.take len).map Int.toNat, hlen, ⟨?_, fun hpos => ?_⟩, ?_, by rw [← hlen]; exact hl, by unfold maxLen at hm; omega⟩
    · intro y hy
      obtain ⟨z, hz1, rfl⟩ := List.mem_map.1 hy
      have := hby z (List.mem_of_mem_take hz1)
      omega
    · have hlp : 0 < len := by omega
      have hc0 := hcell 0 (by omega)
      obtain ⟨b, off, spot⟩ := x
      have hspot : spot = none := by simpa [Addr.add] using World.cell?_spot hc0
      subst hspot
      have hc0' : W.cell? ⟨b, off, none⟩ = some (.int .u8 (zs.getD 0 0)) := by simpa [Addr.add] using hc0
      refine ⟨b, off, rfl, World.block_lt_of_cell? W _ hc0', fun j hj => ?_⟩
      have hj2 : j < len := by omega
      have hjz : j < zs.length := by omega
      have hadd : (⟨b, off, none⟩ : Addr).add j = ⟨b, off + j, none⟩ := by
        unfold Addr.add; split
        · rename_i h; subst h; rfl
        · rfl
      have := hcell j hjz
      rw [hadd] at this
      rw [this]
      have hb := hby _ (List.getElem_mem hjz)
      simp [hj2, hjz]
      omega
    · refine .inr ⟨_, _, hx.1, ?_⟩
      simp [lits]
theorem own_cap {w : World} {base g cap : Nat} {l : List Nat} (h : Wi.OwnB w base g cap l) : l.length ≤ cap := by
  obtain ⟨cur, _, _, h1, _⟩ := h.parts
  exact h1
theorem Wi_take {w : World} {B : Nat} {A : Option Addr} {l : List Nat} (h : Wi.Row w B A l) (p : Nat) : Wi.Row w B A (l.take p) :=
  ⟨fun x hx => h.1 x (List.mem_of_mem_take hx), fun hn => by
    rw [List.length_take] at hn
    obtain ⟨b, off, e, hb, hc⟩ := h.2 (by omega)
    refine ⟨b, off, e, hb, fun j hj => ?_⟩
    rw [List.length_take] at hj
    rw [hc j (by omega), List.getElem?_take, if_pos (by omega)]⟩
theorem encV_len {v : List D} (h : rightB v = true) : (encV v).length ≤ 3000 := by
  have h1 : ∀ (u : List D), (∀ d ∈ u, dotB d = true) → (encL u).length ≤ 42 * u.length := by
    intro u
    induction u with
    | nil => intro _; simp [encL]
    | cons d t ih =>
      intro hu
      have e : encL (d :: t) = encD d ++ encL t := by simp [encL]
      have hd := encD_len (nameB_pos (dotB_iff.1 (hu d (List.mem_cons_self ..))).1).2
      have := ih fun x hx => hu x (List.mem_cons_of_mem _ hx)
      rw [e, List.length_append, List.length_cons]; omega
  have := h1 v (rightB_iff.1 h).2.1
  have := right_len h
  unfold encV
  rw [List.length_append]
  have := (Wi.M.code_len v.length).2
  omega
theorem takeO_yes {l : List Nat} {a : Int} {v : List D} {q : Nat} (h : takeV l a = some (v, q)) : takeO l a = (v, (q : Int), 0) := by unfold takeO; rw [h]
theorem takeO_no {l : List Nat} {a : Int} (h : takeV l a = none) : takeO l a = ([], 0, 70) := by unfold takeO; rw [h]
theorem layO_yes {b : List Nat} {v : List D} (h : rightB v = true) : layO b v = (b ++ encV v, 0) := by unfold layO; rw [if_pos h]
theorem layO_no {b : List Nat} {v : List D} (h : ¬ rightB v = true) : layO b v = ([], 2) := by unfold layO; rw [if_neg h]
end Go.Proofs.Ytadcmljcbmfcaaa.V
namespace Go.Proofs.Ytadcmljcbmfcaaa.vectorBack
open Go.RowKit Go.Proofs.Ytadcmljcbmfcaaa.V
set_option linter.unusedVariables false
set_option linter.unusedSimpArgs false

set_option maxRecDepth 100000 in
set_option maxHeartbeats 3200000 in
/-- Behind the first half: the vector itself, laid and read. -/
theorem walk (A : Option Addr) (c : Nat) (b : List Nat) (x : Vc) (w : World) (hb : Wi.Row w w.heap.size A b) (hbl : b.length ≤ 140737488351232) (hcap : b.length ≤ c) (hc : c ≤ 9223372036854775807) (hx : x.ok w w.heap.size) (hfx : Fit x.l) : Calls Try.prog 10 #[.slice A b.length c, .slice x.A x.l.length x.c] w fun e w' => e = .returned (.bool true) ∧ Below w.heap.size w w' := by
  obtain ⟨B, cb, v⟩ := x
  simp only at *
  obtain ⟨bl, hbn⟩ : ∃ n, b.length = n := ⟨_, rfl⟩
  obtain ⟨vl, hvn⟩ : ∃ n, v.length = n := ⟨_, rfl⟩
  rw [hbn] at hbl hcap ⊢
  rw [hvn]
  have HBN := Lib.hid hbn
  have HVN := Lib.hid hvn
  have HB := Lib.hid hb
  have HX := Lib.hid hx
  have HBL := Lib.hid (And.intro hbl hcap)
  have hb256 := hb.1
  have H256 := Lib.hid hb256
  clear hbn hvn hb hx hfx hb256
  go_enter Try.func10, Try.ntmps10
  go_wp2_with fail
  refine (shown_any _).mono ?_
  rintro e w2 ⟨rfl, hb2⟩
  have H2 := Lib.hid hb2
  have RB2 := Lib.hid (HB.out.up hb2)
  have OX2 := Lib.hid (HX.out.up hb2)
  clear hb2
  have hcall := take_any A c b 0 w2 RB2.out (by rw [HBN.out]; exact hcap) (by rw [HBN.out]; omega) (by omega) (by omega)
  rw [HBN.out] at hcall
  have HCall := Lib.hid hcall
  clear hcall
  go_wp2_with fail
  refine HCall.out.mono ?_
  rintro e w3 ⟨⟨A3, c3, rfl, ok3⟩, hb3⟩
  have H3 := Lib.hid (H2.out.trans (hb3.mono H2.out.size))
  have RB3 := Lib.hid (RB2.out.up hb3)
  have OX3 := Lib.hid (OX2.out.up hb3)
  have REST : ∀ (W : World), Below w.heap.size w W → Hid (Wi.Row W W.heap.size A b) ∧ Hid (Vc.ok ⟨B, cb, v⟩ W W.heap.size) := fun W hW => ⟨HB.out.up hW, HX.out.up hW⟩
  have HRest := Lib.hid REST
  clear REST HCall
  cases hTV : takeV b 0 with
  | none =>
    have hO := takeO_no hTV
    rw [hO] at ok3 ⊢
    simp only [List.length_nil] at ok3 ⊢
    clear hb3 ok3 hTV hO RB2 OX2
    obtain ⟨RB3, OX3⟩ := HRest.out _ H3.out
    obtain ⟨R, hR⟩ : ∃ R, rightB v = R := ⟨_, rfl⟩
    have hlay := lay_any (A := none) (b := []) 0 cb (Wi.Row.none_ w3 w3.heap.size none) (by simp) OX3.out
    simp only [List.length_nil] at hlay
    rw [HVN.out] at hlay
    have HRv := Lib.hid hR
    cases R with
    | false =>
      rw [layO_no (by rw [hR]; decide)] at hlay
      have HLay := Lib.hid hlay
      clear hlay hR
      go_wp2_with fail
      refine HLay.out.mono ?_
      rintro e w6 ⟨⟨A6, c6, rfl, hown⟩, hb6⟩
      simp only [List.length_nil]
      have H6 := Lib.hid (H3.out.trans (hb6.mono H3.out.size))
      have OX6 := Lib.hid (OX3.out.up hb6)
      clear hown hb6 HLay
      go_wp2_with fail
      rw [← HVN.out]
      refine (right_any cb OX6.out.1 OX6.out.2.2.2).mono ?_
      rintro e w7 ⟨rfl, hb7⟩
      rw [HRv.out, HVN.out]
      have H7 := Lib.hid (H6.out.trans (hb7.mono H6.out.size))
      clear hb7
      go_wp2
      go_ret
      exact ⟨rfl, H7.out⟩
    | true =>
      rw [layO_yes hR, List.nil_append] at hlay
      have hel := encV_len hR
      have hlt := encV_lt hR
      have htv := takeV_yes hR b
      have hto := takeO_yes htv
      obtain ⟨X, hX⟩ : ∃ X, encV v = X := ⟨_, rfl⟩
      have hX1 : 1 ≤ X.length := by rw [← hX]; unfold encV; rw [List.length_append]; have := (Wi.M.code_len v.length).1; omega
      have HX1 := Lib.hid hX1
      rw [hX] at hlay hel hlt hto
      have HLay := Lib.hid hlay
      have HTO := Lib.hid hto
      have HEL2 := Lib.hid (And.intro hel hlt)
      obtain ⟨xl, hxl⟩ : ∃ n, X.length = n := ⟨_, rfl⟩
      have HXL := Lib.hid hxl
      clear hlay hR hel hlt htv hto hX hX1
      go_wp2_with fail
      refine HLay.out.mono ?_
      rintro e w6 ⟨⟨A6, c6, rfl, hown⟩, hb6⟩
      simp only at hown ⊢
      have H6 := Lib.hid (H3.out.trans (hb6.mono H3.out.size))
      have OX6 := Lib.hid (OX3.out.up hb6)
      have RB6 := Lib.hid (RB3.out.up hb6)
      rcases hown with ⟨g6, rfl, ho6⟩ | ⟨_, _, he⟩
      · obtain ⟨g7, c7, w7, hap7, ho7, hgr7⟩ := ho6.append A c b w6.heap.size RB6.out 43 (by have := HEL2.out.1; have := HBN.out; have := HBL.out.1; omega) hb6.size
        rw [hxl, HBN.out] at hap7
        rw [hxl]
        have hb7 : Below w3.heap.size w3 w7 := hb6.grown hgr7 hb6.size (by rintro k e; cases e; exact ho6.lt.1)
        have H7 := Lib.hid (H3.out.trans (hb7.mono H3.out.size))
        have OX7 := Lib.hid (OX3.out.up hb7)
        have hlt7 : ∀ y ∈ X ++ b, y < 256 := fun y hy => by
          rcases List.mem_append.1 hy with hy | hy
          · exact HEL2.out.2 y hy
          · exact H256.out y hy
        have hrow7 := ho7.row hlt7 ho7.lt.2
        have hl7 : (X ++ b).length = xl + bl := by rw [List.length_append, hxl, HBN.out]
        have hcall := take_any (some ⟨g7, 0, none⟩) c7 (X ++ b) 0 w7 hrow7 (own_cap ho7) (by rw [hl7]; have := HEL2.out.1; have := HBL.out.1; omega) (by omega) (by omega)
        rw [hl7, HTO.out, HXL.out] at hcall
        have HCall := Lib.hid hcall
        have HAP7 := Lib.hid hap7
        clear hcall hap7 ho6 ho7 hgr7 hb6 hb7 hlt7 hrow7 hl7 HLay hxl OX6 RB6
        go_wp2_with (first
          | (at_builtin; refine Wi.wpList_append_run rfl _ _ _ _ rfl _ _ rfl rfl HAP7.out ?_; clear HAP7)
          | fail)
        refine HCall.out.mono ?_
        rintro e w8 ⟨⟨A8, c8, rfl, ok8⟩, hb8⟩
        simp only at ok8 ⊢
        rw [HVN.out]
        have H8 := Lib.hid (H7.out.trans (hb8.mono H7.out.size))
        have OX8 := OX7.out.up hb8
        have hsame := same_any c8 cb ok8.1 ok8.2.2.2 OX8.1 OX8.2.2.2
        simp only [HVN.out, decide_true] at hsame
        have HSame := Lib.hid hsame
        have hxx : ((xl : Int) == (xl : Int)) = true := by simp
        clear hsame ok8 OX8 hb8 HCall
        go_wp2_with fail
        refine HSame.out.mono ?_
        rintro e w9 ⟨rfl, hb9⟩
        have H9 := Lib.hid (H8.out.trans (hb9.mono H8.out.size))
        clear hb9 HSame
        go_wp2
        go_ret
        exact ⟨rfl, H9.out⟩
      · exfalso
        have h1 := HX1.out
        rw [he] at h1
        simp at h1
  | some up =>
    obtain ⟨u, p⟩ := up
    have hO := takeO_yes hTV
    rw [hO] at ok3 ⊢
    simp only at ok3 ⊢
    obtain ⟨ru, hpre, hpl⟩ := takeV_some H256.out hTV
    obtain ⟨ul, hul⟩ : ∃ n, u.length = n := ⟨_, rfl⟩
    have OU3 := Lib.hid ok3
    have hlay := lay_any (A := none) (b := []) 0 c3 (Wi.Row.none_ w3 w3.heap.size none) (by simp) OU3.out
    rw [layO_yes ru, List.nil_append] at hlay
    simp only [List.length_nil] at hlay
    rw [hul] at hlay ⊢
    have hel := encV_len ru
    have hlt := encV_lt ru
    obtain ⟨E, hE⟩ : ∃ E, encV u = E := ⟨_, rfl⟩
    rw [hE] at hlay hpre hel hlt
    have HLay := Lib.hid hlay
    have HPre := Lib.hid hpre
    have hpbl : p ≤ bl := by rw [← HBN.out]; exact hpl
    have hpc : p ≤ c := by omega
    have hpcI : (p : Int) ≤ (c : Int) := by omega
    have HEL := Lib.hid (And.intro hel hlt)
    have hple : E.length = p := by rw [← hpre, List.length_take]; omega
    have HPLE := Lib.hid hple
    clear hb3 ok3 hTV hO RB2 OX2 ru hpre hpl hul hlay hE hel hlt hple
    go_wp2_with fail
    refine HLay.out.mono ?_
    rintro e w4 ⟨⟨A4, c4, rfl, hown⟩, hb4⟩
    have hrow4 : Wi.Row w4 w4.heap.size A4 E := by
      rcases hown with ⟨g, rfl, ho⟩ | ⟨_, _, he⟩
      · exact ho.row HEL.out.2 ho.lt.2
      · simp only at he; rw [he]; exact Wi.Row.none_ _ _ _
    simp only at hown ⊢
    have H4 := Lib.hid (H3.out.trans (hb4.mono H3.out.size))
    have RB4 := Lib.hid (RB3.out.up hb4)
    obtain ⟨el, hel⟩ : ∃ n, E.length = n := ⟨_, rfl⟩
    have hs1 : ∀ j, (convert 43 9 (.slice A4 el c4)).run Try.prog (w4.drewN j) = .ok (.string (Wi.strB E)) (w4.drewN j) := fun j => by
      have := Wi.run_str A4 c4 E (w4.drewN j) _ (hrow4.up (below_drewN (Below.refl _ w4) j))
      rw [hel] at this
      exact this
    have hs2 : ∀ j, (convert 43 9 (.slice A p c)).run Try.prog (w4.drewN j) = .ok (.string (Wi.strB E)) (w4.drewN j) := fun j => by
      have h1 := Wi.run_str A c (b.take p) (w4.drewN j) _ (Wi_take (RB4.out.up (below_drewN (Below.refl _ w4) j)) p)
      rw [HPre.out, HPLE.out] at h1
      exact h1
    obtain ⟨ST, hST⟩ : ∃ s, Wi.strB E = s := ⟨_, rfl⟩
    rw [hST] at hs1 hs2
    rw [hel]
    have hss : (ST.toList == ST.toList) = true := by simp
    have HB5 : Hid (∀ k, Below w.heap.size w (w4.drewN k)) := fun k => below_drewN H4.out k
    clear hown hrow4 hb4 hel hST HLay RB4
    go_upto_region 5 with fail
    go_quiet (fail)
    have H3 := Lib.hid (HB5.out nq)
    clear hs1 hs2 hss HB5 H4
    generalize w4.drewN nq = w3 at *
    obtain ⟨RB3, OX3⟩ := HRest.out _ H3.out
    obtain ⟨R, hR⟩ : ∃ R, rightB v = R := ⟨_, rfl⟩
    have hlay := lay_any (A := none) (b := []) 0 cb (Wi.Row.none_ w3 w3.heap.size none) (by simp) OX3.out
    simp only [List.length_nil] at hlay
    rw [HVN.out] at hlay
    have HRv := Lib.hid hR
    cases R with
    | false =>
      rw [layO_no (by rw [hR]; decide)] at hlay
      have HLay := Lib.hid hlay
      clear hlay hR
      go_wp2_with fail
      refine HLay.out.mono ?_
      rintro e w6 ⟨⟨A6, c6, rfl, hown⟩, hb6⟩
      simp only [List.length_nil]
      have H6 := Lib.hid (H3.out.trans (hb6.mono H3.out.size))
      have OX6 := Lib.hid (OX3.out.up hb6)
      clear hown hb6 HLay
      go_wp2_with fail
      rw [← HVN.out]
      refine (right_any cb OX6.out.1 OX6.out.2.2.2).mono ?_
      rintro e w7 ⟨rfl, hb7⟩
      rw [HRv.out, HVN.out]
      have H7 := Lib.hid (H6.out.trans (hb7.mono H6.out.size))
      clear hb7
      go_wp2
      go_ret
      exact ⟨rfl, H7.out⟩
    | true =>
      rw [layO_yes hR, List.nil_append] at hlay
      have hel := encV_len hR
      have hlt := encV_lt hR
      have htv := takeV_yes hR b
      have hto := takeO_yes htv
      obtain ⟨X, hX⟩ : ∃ X, encV v = X := ⟨_, rfl⟩
      have hX1 : 1 ≤ X.length := by rw [← hX]; unfold encV; rw [List.length_append]; have := (Wi.M.code_len v.length).1; omega
      have HX1 := Lib.hid hX1
      rw [hX] at hlay hel hlt hto
      have HLay := Lib.hid hlay
      have HTO := Lib.hid hto
      have HEL2 := Lib.hid (And.intro hel hlt)
      obtain ⟨xl, hxl⟩ : ∃ n, X.length = n := ⟨_, rfl⟩
      have HXL := Lib.hid hxl
      clear hlay hR hel hlt htv hto hX hX1
      go_wp2_with fail
      refine HLay.out.mono ?_
      rintro e w6 ⟨⟨A6, c6, rfl, hown⟩, hb6⟩
      simp only at hown ⊢
      have H6 := Lib.hid (H3.out.trans (hb6.mono H3.out.size))
      have OX6 := Lib.hid (OX3.out.up hb6)
      have RB6 := Lib.hid (RB3.out.up hb6)
      rcases hown with ⟨g6, rfl, ho6⟩ | ⟨_, _, he⟩
      · obtain ⟨g7, c7, w7, hap7, ho7, hgr7⟩ := ho6.append A c b w6.heap.size RB6.out 43 (by have := HEL2.out.1; have := HBN.out; have := HBL.out.1; omega) hb6.size
        rw [hxl, HBN.out] at hap7
        rw [hxl]
        have hb7 : Below w3.heap.size w3 w7 := hb6.grown hgr7 hb6.size (by rintro k e; cases e; exact ho6.lt.1)
        have H7 := Lib.hid (H3.out.trans (hb7.mono H3.out.size))
        have OX7 := Lib.hid (OX3.out.up hb7)
        have hlt7 : ∀ y ∈ X ++ b, y < 256 := fun y hy => by
          rcases List.mem_append.1 hy with hy | hy
          · exact HEL2.out.2 y hy
          · exact H256.out y hy
        have hrow7 := ho7.row hlt7 ho7.lt.2
        have hl7 : (X ++ b).length = xl + bl := by rw [List.length_append, hxl, HBN.out]
        have hcall := take_any (some ⟨g7, 0, none⟩) c7 (X ++ b) 0 w7 hrow7 (own_cap ho7) (by rw [hl7]; have := HEL2.out.1; have := HBL.out.1; omega) (by omega) (by omega)
        rw [hl7, HTO.out, HXL.out] at hcall
        have HCall := Lib.hid hcall
        have HAP7 := Lib.hid hap7
        clear hcall hap7 ho6 ho7 hgr7 hb6 hb7 hlt7 hrow7 hl7 HLay hxl OX6 RB6
        go_wp2_with (first
          | (at_builtin; refine Wi.wpList_append_run rfl _ _ _ _ rfl _ _ rfl rfl HAP7.out ?_; clear HAP7)
          | fail)
        refine HCall.out.mono ?_
        rintro e w8 ⟨⟨A8, c8, rfl, ok8⟩, hb8⟩
        simp only at ok8 ⊢
        rw [HVN.out]
        have H8 := Lib.hid (H7.out.trans (hb8.mono H7.out.size))
        have OX8 := OX7.out.up hb8
        have hsame := same_any c8 cb ok8.1 ok8.2.2.2 OX8.1 OX8.2.2.2
        simp only [HVN.out, decide_true] at hsame
        have HSame := Lib.hid hsame
        have hxx : ((xl : Int) == (xl : Int)) = true := by simp
        clear hsame ok8 OX8 hb8 HCall
        go_wp2_with fail
        refine HSame.out.mono ?_
        rintro e w9 ⟨rfl, hb9⟩
        have H9 := Lib.hid (H8.out.trans (hb9.mono H8.out.size))
        clear hb9 HSame
        go_wp2
        go_ret
        exact ⟨rfl, H9.out⟩
      · exfalso
        have h1 := HX1.out
        rw [he] at h1
        simp at h1
end Go.Proofs.Ytadcmljcbmfcaaa.vectorBack
