/-
  The reference's Join, Lack.
-/
import Derived.Test.YtadcmljcbmfcaaaVRWith
namespace Go.Proofs.Ytadcmljcbmfcaaa.V
open Go.RowKit
set_option linter.unusedVariables false
set_option linter.unusedSimpArgs false

theorem oper_append_run {P : Program} {w w' : World} {v' : Value} {o : Oper} {a : Act} {K : Act → World → Prop} {Q : Exit → Act → World → Prop} (s x : Operand) (t u : TypeId)
    (ho : o.op = .call { callee := .builtin .append, args := #[s, x], argTypes := #[t, u] }) (vs vx : Value) (hs : a.eval s = vs) (hx : a.eval x = vx) (hrun : (Builtin.append_ #[t, u] o.type #[vs, vx]).run P w = .ok v' w')
    (h : K (a.put o.dst v') w') : o.wp P a w K Q := by
  unfold Oper.wp execOp
  simp only [ho, resolve, invoke, builtin, Sem.run_bind, Sem.run_pure, Result.andThen_ok, List.map_toArray, List.map_cons, List.map_nil, hs, hx, hrun]
  exact h
def stepJ (a : List D) (o : List D) (d : D) : List D := putV ordA o d.1 (max d.2 (at' a d.1))
theorem join_fold (a b : List D) : joinV ordA a b = b.foldl (stepJ a) a := rfl
theorem foldJ_drop {a b : List D} {j : Nat} {d : D} (o : List D) (hj : j < b.length) (hd : b[j]'hj = d) : (b.drop j).foldl (stepJ a) o = (b.drop (j + 1)).foldl (stepJ a) (stepJ a o d) := by
  rw [List.drop_eq_getElem_cons hj, hd]; rfl

set_option maxRecDepth 100000 in
set_option maxHeartbeats 3200000 in
theorem rjoin_any {A A2 : Option Addr} {a b : List D} (c c2 : Nat) {w : World} (hra : Vc.ok ⟨A, c, a⟩ w w.heap.size) (hla : a.length ≤ 10000000000000) (hfa : Fit a) (hrb : Vc.ok ⟨A2, c2, b⟩ w w.heap.size) (hlb : b.length ≤ 10000000000000) (hfb : Fit b) : Calls Try.prog 25 #[.slice A a.length c, .slice A2 b.length c2] w fun e w' => VecR e w' (joinO a b) ∧ Below w.heap.size w w' := by
  obtain ⟨L, hL⟩ : ∃ L, a.length = L := ⟨_, rfl⟩
  obtain ⟨M, hM⟩ : ∃ L, b.length = L := ⟨_, rfl⟩
  obtain ⟨R, hR⟩ : ∃ R, rightB a = R := ⟨_, rfl⟩
  obtain ⟨S, hS⟩ : ∃ R, rightB b = R := ⟨_, rfl⟩
  obtain ⟨J, hJ⟩ : ∃ J, joinV ordA a b = J := ⟨_, rfl⟩
  obtain ⟨O, hO⟩ : ∃ O, joinO a b = O := ⟨_, rfl⟩
  have hO2 : O = if (R && S) = true then (if J.length ≤ 64 then (J, 0) else ([], 70)) else ([], 2) := by rw [← hO, ← hR, ← hS, ← hJ]; rfl
  rw [hO]
  have HO2 := Lib.hid hO2
  have HJ := Lib.hid hJ
  rw [hL, hM]
  have HRv := Lib.hid hR
  have HSv := Lib.hid hS
  have HA := Lib.hid (And.intro hra (And.intro hla hfa))
  have HB := Lib.hid (And.intro hrb (And.intro hlb hfb))
  clear hR hS hra hrb hla hlb hfa hfb hO2 hJ hO
  go_enter Try.func25, Try.ntmps25
  go_wp2_with fail
  rw [← hL, ← hM]
  refine (rright_any c HA.out.1.1 HA.out.2.1 HA.out.2.2).mono ?_
  rintro e wa ⟨rfl, hba⟩
  rw [HRv.out, hL, hM]
  have HBA := Lib.hid hba
  clear hba
  go_wp2_with fail
  rw [← hL, ← hM]
  refine (rright_any c2 (HB.out.1.1.up HBA.out) HB.out.2.1 HB.out.2.2).mono ?_
  rintro e wb ⟨rfl, hbb⟩
  rw [HSv.out, hL, hM]
  have HBB := Lib.hid (HBA.out.trans (hbb.mono HBA.out.size))
  have HL := Lib.hid hL
  have HM := Lib.hid hM
  clear hbb hL hM
  cases R with
  | false =>
    have HO : Hid (O = ([], 2)) := HO2.out
    go_wp2
    go_ret2
    exact ⟨⟨none, 0, by rw [HO.out]; rfl, by rw [HO.out]; exact nil_ok _ _⟩, HBB.out⟩
  | true =>
    cases S with
    | false =>
      have HO : Hid (O = ([], 2)) := HO2.out
      go_wp2
      go_ret2
      exact ⟨⟨none, 0, by rw [HO.out]; rfl, by rw [HO.out]; exact nil_ok _ _⟩, HBB.out⟩
    | true =>
      have hM64 : M ≤ 64 := by rw [← HM.out]; exact right_len HSv.out
      have HL64 : Hid (L ≤ 64) := by show L ≤ 64; rw [← HL.out]; exact right_len HRv.out
      go_wp2
      go_loopg [8, 9] M (fun k p i wr => ∃ (j : Nat) (A3 : Option Addr) (c3 on : Nat) (o : List D), j ≤ M ∧ k = M - j ∧ i = .int .i64 j ∧ p = .slice A3 on c3 ∧ Hid (o.length = on ∧ on ≤ 64 + j ∧ (b.drop j).foldl (stepJ a) o = J) ∧ Hid (Vc.ok ⟨A3, c3, o⟩ wr wr.heap.size) ∧ Hid (Below w.heap.size w wr))
      case atStart => exact ⟨0, A, c, L, a, by omega, by omega, rfl, rfl, ⟨HL.out, by have := HL64.out; omega, HJ.out⟩, HA.out.1.up HBB.out, HBB⟩
      case round =>
        obtain ⟨j, A3, c3, on, o, hj, hgk, rfl, rfl, ho, hok, hbw⟩ := hrel
        have HGK := Lib.hid hgk; clear hgk
        by_cases hlt : j < M
        · have hlt' : j < b.length := by rw [HM.out]; exact hlt
          obtain ⟨bb, off, rfl, hbs, c0, c1⟩ := HB.out.1.1.at j hlt'
          obtain ⟨⟨s, n⟩, hd⟩ : ∃ d, b[j]'hlt' = d := ⟨_, rfl⟩

          rw [hd] at c0 c1
          have hdot := (dotB_iff.1 ((rightB_iff.1 HSv.out).2.1 (s, n) (by rw [← hd]; exact List.getElem_mem hlt'))).2
          simp only at hdot
          have hbd : Below wr.heap.size wr wr.drew := (Below.refl _ _).drew
          have HBD0 := Lib.hid (hbw.out.trans (hbd.mono hbw.out.size))
          have HRA0 := Lib.hid ((HA.out.1.1).up HBD0.out)
          have HOKD0 := Lib.hid (hok.out.up hbd)
          have g0 := (HBD0.out.cell (p := ⟨bb, off + j * 2, none⟩) hbs).trans c0
          have g1 := (HBD0.out.cell (p := ⟨bb, off + j * 2 + 1, none⟩) hbs).trans c1
          simp only at g0 g1
          have HS0 : Hid (wr.drew.cell? ⟨bb, off + j * 2, none⟩ = some (.string s) ∧ wr.drew.cell? ⟨bb, off + j * 2 + 1, none⟩ = some (.int .i64 n)) := ⟨g0, g1⟩
          obtain ⟨Z, hZ⟩ : ∃ Z, at' a s = Z := ⟨_, rfl⟩
          have hmx : (if n < Z then Z else n) = max n Z := by omega
          obtain ⟨mx, hmxe⟩ : ∃ mx, (if n < Z then Z else n) = mx := ⟨_, rfl⟩
          have hmx0 : mx ≠ 0 := by omega
          obtain ⟨P5, hP5⟩ : ∃ P, putV ordA o s mx = P := ⟨_, rfl⟩
          have hst : stepJ a o (s, n) = P5 := by unfold stepJ; simp only; rw [hZ, ← hmx, hmxe, hP5]
          have hk := foldJ_drop (a := a) o hlt' hd
          have HO5 : Hid (∀ n5, P5.length = n5 → Hid (P5.length = n5 ∧ n5 ≤ 64 + (j + 1) ∧ (b.drop (j + 1)).foldl (stepJ a) P5 = J)) := fun n5 hn5 => ⟨hn5, by
            have h1 := putV_len o s mx
            rw [hP5, hn5] at h1
            have := ho.out.1; have := ho.out.2.1; omega, by rw [← hst, ← hk]; exact ho.out.2.2⟩
          have hcall : ∀ W, Vc.ok ⟨A3, c3, o⟩ W W.heap.size → Calls Try.prog 40 #[.slice A3 on c3, .string s, .int .i64 mx] W fun e w' => (∃ A' c', e = .returned (.slice A' (putV ordA o s mx).length c') ∧ Vc.ok ⟨A', c', putV ordA o s mx⟩ w' w'.heap.size) ∧ Below W.heap.size W w' := fun W h => by
            have := put_any c3 s (n := mx) h.1 (by have := ho.out.1; have := ho.out.2.1; simp only at this ⊢; omega) hmx0
            rw [ho.out.1] at this
            exact this
          have HCall0 := Lib.hid hcall
          have HZ := Lib.hid hZ
          have HP5 := Lib.hid hP5
          clear hcall hZ hP5 hst hk hmx hmx0 hdot hd c0 c1 hbd
          go_upto_region 9 with fail
          refine wp_region_held_drew (S := fun Wv => (Wv.cell? ⟨bb, off + j * 2, none⟩ = some (.string s) ∧ Wv.cell? ⟨bb, off + j * 2 + 1, none⟩ = some (.int .i64 n))) (by kernel_rfl) HS0.out (fun hS => ?_)
          clear g0 g1
          generalize wr.drew = wd at *
          have HBD := HBD0
          have HRA := HRA0
          have HCall := Lib.hid (HCall0.out wd HOKD0.out)
          clear HBD0 HRA0 HCall0 HOKD0 HS0
          refine wpAnyH_take (i := 0) (v := ?_) rfl (by kernel_rfl) (by kernel_rfl) (by kernel_rfl) (fun _ _ _ h => h) (Yields.yieldsIf (Or.inl ⟨by kernel_rfl, ?_⟩)) hS ?_
          rotate_left
          · first | (intro w; go_simp; done) | (intro w; go_simp; with_reducible rfl)
          refine wpAnyH_take (i := 1) (v := ?_) rfl (by kernel_rfl) (by kernel_rfl) (by kernel_rfl) (fun _ _ _ h => h) (Yields.yieldsIf (Or.inl ⟨by kernel_rfl, ?_⟩)) hS ?_
          rotate_left
          · first | (intro w; go_simp; done) | (intro w; go_simp; with_reducible rfl)
          refine wpAnyH_take (i := 2) (v := ?_) rfl (by kernel_rfl) (by kernel_rfl) (by kernel_rfl) (fun _ _ _ h => h) (Yields.yieldsIf (Or.inl ⟨by kernel_rfl, ?_⟩)) hS ?_
          rotate_left
          · first | (intro w; go_simp; done) | (intro w; go_simp; with_reducible rfl)
          refine wpAnyH_take (i := 3) (v := ?_) rfl (by kernel_rfl) (by kernel_rfl) (by kernel_rfl) (fun _ _ _ h => h) (Yields.yieldsIf (Or.inl ⟨by kernel_rfl, ?_⟩)) hS ?_
          rotate_left
          · first | (intro w; go_simp; done) | (intro w; go_simp; with_reducible rfl)
          refine wpAnyH_take (i := 4) (v := ?_) rfl (by kernel_rfl) (by kernel_rfl) (by kernel_rfl) (fun _ _ _ h => h) (Yields.yieldsIf (Or.inl ⟨by kernel_rfl, ?_⟩)) hS ?_
          rotate_left
          · first | (intro w; go_simp; done) | (intro w; go_simp; with_reducible rfl)
          refine wpAnyH_take (i := 5) (v := ?_) rfl (by kernel_rfl) (by kernel_rfl) (by kernel_rfl) (fun _ _ _ h => h) (Or.inl ⟨by kernel_rfl, fun W hW => ?_⟩) hS ?_
          rotate_left
          · obtain ⟨g0, g1⟩ := hW
            first | (go_simp; done) | (go_simp; with_reducible rfl)
          refine wpAnyH_take (i := 6) (v := ?_) rfl (by kernel_rfl) (by kernel_rfl) (by kernel_rfl) (fun _ _ _ h => h) (Yields.yieldsIf (Or.inl ⟨by kernel_rfl, ?_⟩)) hS ?_
          rotate_left
          · first | (intro w; go_simp; done) | (intro w; go_simp; with_reducible rfl)
          refine wpAnyH_take (i := 7) (v := ?_) rfl (by kernel_rfl) (by kernel_rfl) (by kernel_rfl) (fun _ _ _ h => h) (Yields.yieldsIf (Or.inl ⟨by kernel_rfl, ?_⟩)) hS ?_
          rotate_left
          · first | (intro w; go_simp; done) | (intro w; go_simp; with_reducible rfl)
          refine wpAnyH_take (i := 8) (v := ?_) rfl (by kernel_rfl) (by kernel_rfl) (by kernel_rfl) (fun _ _ _ h => h) (Yields.yieldsIf (Or.inl ⟨by kernel_rfl, ?_⟩)) hS ?_
          rotate_left
          · first | (intro w; go_simp; done) | (intro w; go_simp; with_reducible rfl)
          refine wpAnyH_take (i := 9) (v := ?_) rfl (by kernel_rfl) (by kernel_rfl) (by kernel_rfl) (fun _ _ _ h => h) (Yields.yieldsIf (Or.inl ⟨by kernel_rfl, ?_⟩)) hS ?_
          rotate_left
          · first | (intro w; go_simp; done) | (intro w; go_simp; with_reducible rfl)
          refine wpAnyH_take (i := 10) (v := ?_) rfl (by kernel_rfl) (by kernel_rfl) (by kernel_rfl) (fun _ _ _ h => h) (Or.inl ⟨by kernel_rfl, fun W hW => ?_⟩) hS ?_
          rotate_left
          · obtain ⟨g0, g1⟩ := hW
            first | (go_simp; done) | (go_simp; with_reducible rfl)
          refine wpAnyH_take (i := 11) (v := ?_) rfl (by kernel_rfl) (by kernel_rfl) (by kernel_rfl) (fun _ _ _ h => h) (Yields.yieldsIf (Or.inl ⟨by kernel_rfl, ?_⟩)) hS ?_
          rotate_left
          · first | (intro w; go_simp; done) | (intro w; go_simp; with_reducible rfl)
          refine wpAnyH_take (i := 12) (v := ?_) rfl (by kernel_rfl) (by kernel_rfl) (by kernel_rfl) (fun _ _ _ h => h) (Yields.yieldsIf (Or.inl ⟨by kernel_rfl, ?_⟩)) hS ?_
          rotate_left
          · first | (intro w; go_simp; done) | (intro w; go_simp; with_reducible rfl)
          refine wpAnyH_take (i := 13) (v := ?_) rfl (by kernel_rfl) (by kernel_rfl) (by kernel_rfl) (fun _ _ _ h => h) (Yields.yieldsIf (Or.inl ⟨by kernel_rfl, ?_⟩)) hS ?_
          rotate_left
          · first | (intro w; go_simp; done) | (intro w; go_simp; with_reducible rfl)
          refine wpAnyH_take (i := 14) (v := ?_) rfl (by kernel_rfl) (by kernel_rfl) (by kernel_rfl) (fun _ _ _ h => h) (Yields.yieldsIf (Or.inl ⟨by kernel_rfl, ?_⟩)) hS ?_
          rotate_left
          · first | (intro w; go_simp; done) | (intro w; go_simp; with_reducible rfl)
          refine wpAnyH_take (i := 15) (v := ?_) rfl (by kernel_rfl) (by kernel_rfl) (by kernel_rfl) (fun _ _ _ h => h) (Yields.yieldsIf (Or.inl ⟨by kernel_rfl, ?_⟩)) hS ?_
          rotate_left
          · first | (intro w; go_simp; done) | (intro w; go_simp; with_reducible rfl)
          refine wpAnyH_take (i := 16) (v := ?_) rfl (by kernel_rfl) (by kernel_rfl) (by kernel_rfl) (fun _ _ _ h => h) (Or.inl ⟨by kernel_rfl, fun W hW => ?_⟩) hS ?_
          rotate_left
          · obtain ⟨g0, g1⟩ := hW
            first | (go_simp; done) | (go_simp; with_reducible rfl)
          try go_simp
          refine wpAnyH_ready (rs := [17]) (by kernel_rfl) (by simp) ?_
          refine AllReadyH.cons rfl (fun K hK => ?_) AllReadyH.nil
          go_simp
          go_wp2_with fail
          rw [← HL.out]
          refine (rat_any c s (HRA.out) HA.out.2.1).mono ?_
          rintro e w9 ⟨rfl, hw9⟩
          rw [HZ.out, HL.out]
          obtain rfl := hw9
          have hS3 : (wd.cell? ⟨bb, off + j * 2, none⟩ = some (.string s) ∧ wd.cell? ⟨bb, off + j * 2 + 1, none⟩ = some (.int .i64 n)) := hS
          refine hK.out _ _ hS3 (fun hS => ?_)
          clear hK K hS3
          refine wpAnyH_take (i := 18) (v := ?_) rfl (by kernel_rfl) (by kernel_rfl) (by kernel_rfl) (fun _ _ _ h => h) (Yields.yieldsIf (Or.inl ⟨by kernel_rfl, ?_⟩)) hS ?_
          rotate_left
          · first | (intro w; go_simp; done) | (intro w; go_simp; with_reducible rfl)
          try go_simp
          refine wpAnyH_ready (rs := [19]) (by kernel_rfl) (by simp) ?_
          refine AllReadyH.cons rfl (fun K hK => ?_) AllReadyH.nil
          go_simp
          go_wp2_with fail
          refine HCall.out.mono ?_
          rintro e w5 ⟨⟨A5, c5, rfl, ok5⟩, hb5⟩
          rw [HP5.out] at ok5 ⊢
          obtain ⟨n5, hn5⟩ : ∃ n, P5.length = n := ⟨_, rfl⟩
          rw [hn5]
          have HN5 := Lib.hid hn5
          have OK5 := Lib.hid ok5
          have HB5 := Lib.hid (HBD.out.trans (hb5.mono HBD.out.size))
          have hS3 : (w5.cell? ⟨bb, off + j * 2, none⟩ = some (.string s) ∧ w5.cell? ⟨bb, off + j * 2 + 1, none⟩ = some (.int .i64 n)) := ⟨(hb5.cell (p := ⟨bb, off + j * 2, none⟩) (by show bb < _; have := HBD.out.size; omega)).trans hS.1, (hb5.cell (p := ⟨bb, off + j * 2 + 1, none⟩) (by show bb < _; have := HBD.out.size; omega)).trans hS.2⟩
          clear hn5 ok5 hb5
          refine hK.out _ _ hS3 (fun hS => ?_)
          clear hK K hS3
          refine wpAnyH_take (i := 20) (v := ?_) rfl (by kernel_rfl) (by kernel_rfl) (by kernel_rfl) (fun _ _ _ h => h) (Yields.yieldsIf (Or.inl ⟨by kernel_rfl, ?_⟩)) hS ?_
          rotate_left
          · first | (intro w; go_simp; done) | (intro w; go_simp; with_reducible rfl)
          try go_simp
          refine wpAnyH_done (by kernel_rfl) ?_ _
          go_wp2
          go_roundg (M - (j + 1))
          case rel => exact ⟨j + 1, A5, c5, n5, P5, by omega, rfl, by go_num, rfl, HO5.out n5 HN5.out, OK5, HB5⟩
          case measure => have := HGK.out; omega
        · have hin : j = M := by omega
          subst hin
          have hf : Hid (o = J) := by
            have := ho.out.2.2
            rw [List.drop_eq_nil_of_le (by have := HM.out; omega)] at this
            exact this
          have HO : Hid (O = if J.length ≤ 64 then (J, 0) else ([], 70)) := HO2.out
          have hon : J.length = on := by rw [← hf.out]; exact ho.out.1
          rw [hon] at HO
          have HON := Lib.hid hon
          clear hon
          by_cases h64 : on ≤ 64
          · have HO3 : Hid (O = (J, 0)) := HO.out.trans (if_pos h64)
            have hng : ¬ (64 : Int) < (on : Int) := by omega
            go_wp2
            go_ret2
            exact ⟨⟨A3, c3, by rw [HO3.out, HON.out]; rfl, by rw [HO3.out, ← hf.out]; exact hok.out⟩, hbw.out⟩
          · have HO3 : Hid (O = ([], 70)) := HO.out.trans (if_neg h64)
            have hng : (64 : Int) < (on : Int) := by omega
            go_wp2
            go_ret2
            exact ⟨⟨none, 0, by rw [HO3.out]; rfl, by rw [HO3.out]; exact nil_ok _ _⟩, hbw.out⟩
end Go.Proofs.Ytadcmljcbmfcaaa.V
