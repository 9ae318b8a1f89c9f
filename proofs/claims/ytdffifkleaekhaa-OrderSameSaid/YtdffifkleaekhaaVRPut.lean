/-
  The reference's put.
-/
import Derived.Test.YtdffifkleaekhaaVGate
namespace Go.Proofs.Ytdffifkleaekhaa.V
open Go.RowKit
set_option linter.unusedVariables false
set_option linter.unusedSimpArgs false

theorem wpList_append_run {P : Program} {w w' : World} {v' : Value} {ops : Array Oper} {rest : List Oper} {o : Oper} {a : Act} {Q : Exit → Act → World → Prop} (hgd : o.guard = none) (s x : Operand) (t u : TypeId)
    (ho : o.op = .call { callee := .builtin .append, args := #[s, x], argTypes := #[t, u] }) (vs vx : Value) (hs : a.eval s = vs) (hx : a.eval x = vx) (hrun : (Builtin.append_ #[t, u] o.type #[vs, vx]).run P w = .ok v' w')
    (h : wpList P ops Q rest (a.put o.dst v') w') : wpList P ops Q (o :: rest) a w :=
  wpList_plain hgd fun _ hK => by
    unfold Oper.wp execOp
    simp only [ho, resolve, invoke, builtin, Sem.run_bind, Sem.run_pure, Result.andThen_ok, List.map_toArray, List.map_cons, List.map_nil, hs, hx, hrun]
    exact hK _ _ h
def restP (dn : Bool) (v : List D) (s : ByteArray) (n : Int) : List D := if dn = true then v.filter (fun e => decide (e.1 ≠ s)) else putV ordA v s n
theorem restP_done {l : List D} {j : Nat} {d : D} (s : ByteArray) (n : Int) (hj : j < l.length) (hd : l[j]'hj = d) : restP true (l.drop j) s n = (if d.1 = s then [] else [d]) ++ restP true (l.drop (j + 1)) s n := by
  rw [List.drop_eq_getElem_cons hj, hd]
  unfold restP
  simp only [if_true, List.filter_cons]
  by_cases h : d.1 = s
  · simp [h]
  · simp [h]
theorem restP_lt {l : List D} {j : Nat} {d : D} (s : ByteArray) (n : Int) (hj : j < l.length) (hd : l[j]'hj = d) (h : ltA d.1 s = true) : restP false (l.drop j) s n = [d] ++ restP false (l.drop (j + 1)) s n := by
  rw [List.drop_eq_getElem_cons hj, hd]
  show putV ordA (d :: _) s n = _
  simp only [putV]
  rw [if_pos (show ordA.lt d.1 s = true from h)]; rfl
theorem restP_ge {l : List D} {j : Nat} {d : D} (s : ByteArray) (n : Int) (hj : j < l.length) (hd : l[j]'hj = d) (h : ltA d.1 s = false) : restP false (l.drop j) s n = [(s, n)] ++ restP true (l.drop j) s n := by
  rw [List.drop_eq_getElem_cons hj, hd]
  show putV ordA (d :: _) s n = _
  have h' : ¬ ordA.lt d.1 s = true := by rw [show ordA.lt d.1 s = ltA d.1 s from rfl, h]; decide
  simp only [putV]
  rw [if_neg h']; rfl
theorem restP_nil (dn : Bool) (s : ByteArray) (n : Int) : restP dn [] s n = if dn = true then [] else [(s, n)] := by cases dn <;> rfl
theorem putV_len (v : List D) (s : ByteArray) (n : Int) : (putV ordA v s n).length ≤ v.length + 1 := by
  induction v with
  | nil => simp [putV]
  | cons d t ih =>
    simp only [putV]
    split
    · simp only [List.length_cons]; omega
    · exact Nat.succ_le_succ (List.length_filter_le _ _)

set_option maxRecDepth 100000 in
set_option maxHeartbeats 3200000 in
theorem put_any {A : Option Addr} {l : List D} (c : Nat) (s : ByteArray) {n : Int} {w : World} (hr : RowD w w.heap.size A l) (hl : l.length ≤ 1000000) (hn : n ≠ 0) : Calls Try.prog 73 #[.slice A l.length c, .string s, .int .i64 n] w fun e w' => (∃ A' c', e = .returned (.slice A' (putV ordA l s n).length c') ∧ Vc.ok ⟨A', c', putV ordA l s n⟩ w' w'.heap.size) ∧ Below w.heap.size w w' := by
  obtain ⟨P, hP⟩ : ∃ P, putV ordA l s n = P := ⟨_, rfl⟩
  have hPl := putV_len l s n
  rw [hP] at hPl ⊢
  have hP0 : Hid (P = [] ++ restP false (l.drop 0) s n) := hP.symm
  obtain ⟨L, hL⟩ : ∃ L, l.length = L := ⟨_, rfl⟩
  have hn0 : (n == 0) = false := by rw [beq_eq_false_iff_ne]; exact hn
  rw [hL] at hl hPl ⊢
  have HPL := Lib.hid hPl
  have HR := Lib.hid hr
  have HL := Lib.hid hL
  clear hr hP hPl hn hL
  go_enter Try.func73, Try.ntmps73
  go_wp2
  go_loopg [7, 8, 9] L (fun k p q i wr => ∃ (j : Nat) (A : Option Addr) (c ol : Nat) (o : List D) (dn : Bool), j ≤ L ∧ k = L - j ∧ i = .int .i64 j ∧ p = .slice A ol c ∧ q = .bool dn ∧ Hid (o.length = ol) ∧ Hid (P = o ++ restP dn (l.drop j) s n) ∧ Hid (GrD wr w.heap.size A c o) ∧ Hid (Below w.heap.size w wr))
  case atStart => exact ⟨0, none, 0, 0, [], false, by omega, by omega, rfl, rfl, rfl, rfl, hP0, GrD.nil _ _, Below.refl _ _⟩
  case round =>
    obtain ⟨j, A', c', ol, o, dn, hj, hgk, rfl, rfl, rfl, hol, hat, hgr, hbw⟩ := hrel
    have HGK := Lib.hid hgk; clear hgk
    have hoP : o.length ≤ 1000001 := by
      have h1 := congrArg List.length hat.out
      rw [List.length_append] at h1
      have := HPL.out; omega
    by_cases hlt : j < L
    · have hlt' : j < l.length := by rw [HL.out]; exact hlt
      obtain ⟨b, off, rfl, hbs, c0, c1⟩ := HR.out.at j hlt'
      obtain ⟨⟨t, m⟩, hd⟩ : ∃ d, l[j]'hlt' = d := ⟨_, rfl⟩
      rw [hd] at c0 c1
      have g0 := (hbw.out.cell hbs).trans c0
      have g1 := (hbw.out.cell (p := ⟨b, off + j * 2 + 1, none⟩) hbs).trans c1
      clear c0 c1
      simp only at g0 g1
      have hk1 := restP_done s n hlt' hd
      obtain ⟨E, hE⟩ : ∃ E, decide (t = s) = E := ⟨_, rfl⟩
      have heq : (t.toList == s.toList) = E := by rw [eq_str, hE]
      cases dn with
      | true =>
        cases E with
        | true =>
          have hts := of_decide_eq_true hE
          have HF : Hid (P = o ++ restP true (l.drop (j + 1)) s n) := by
            have := hat.out
            rw [hk1] at this
            simp only [hts, if_true, List.nil_append] at this
            exact this
          clear hk1 hE hts
          go_wp2
          go_roundg (L - (j + 1))
          case rel => exact ⟨j + 1, A', c', ol, o, true, by omega, rfl, by go_num, rfl, rfl, hol, HF, hgr, hbw⟩
          case measure => have := HGK.out; omega
        | false =>
          have hts := of_decide_eq_false hE
          have HF : Hid (P = (o ++ [(t, m)]) ++ restP true (l.drop (j + 1)) s n) := by
            have := hat.out
            rw [hk1] at this
            simp only [hts, if_false] at this
            rw [List.append_assoc]; exact this
          obtain ⟨A5, c5, w5, hap5, gr5, bl5, _, _, _⟩ := hgr.out.one (t, m) 24 (by omega) hbw.out.size
          rw [hol.out] at hap5
          simp only at hap5
          have HAP5 := Lib.hid hap5
          have HG5 := Lib.hid gr5
          have HB5 := Lib.hid (hbw.out.trans bl5)
          have HB5K := Lib.hid bl5
          have HOL5 : Hid ((o ++ [(t, m)]).length = ol + 1) := by show _ = _; rw [List.length_append, hol.out]; rfl
          clear hap5 gr5 bl5
          clear hk1 hE hts
          go_wp2_with (at_builtin; refine wpList_append_run rfl _ _ _ _ rfl _ _ rfl rfl HAP5.out ?_; clear HAP5)
          go_roundg (L - (j + 1))
          case rel => exact ⟨j + 1, A5, c5, ol + 1, o ++ [(t, m)], true, by omega, rfl, by go_num, rfl, rfl, HOL5, HF, HG5, HB5⟩
          case measure => have := HGK.out; omega
      | false =>
        obtain ⟨Lt, hLt⟩ : ∃ Lt, ltA t s = Lt := ⟨_, rfl⟩
        have hlt3 : Op.bytesLess t.toList s.toList = Lt := hLt
        cases Lt with
        | true =>
          have hts : ¬ t = s := lt_ne ordA hLt
          have HF : Hid (P = (o ++ [(t, m)]) ++ restP false (l.drop (j + 1)) s n) := by
            have := hat.out
            rw [restP_lt s n hlt' hd hLt] at this
            rw [List.append_assoc]; exact this
          obtain rfl : E = false := by rw [← hE]; exact decide_eq_false hts
          obtain ⟨A5, c5, w5, hap5, gr5, bl5, _, _, _⟩ := hgr.out.one (t, m) 24 (by omega) hbw.out.size
          rw [hol.out] at hap5
          simp only at hap5
          have HAP5 := Lib.hid hap5
          have HG5 := Lib.hid gr5
          have HB5 := Lib.hid (hbw.out.trans bl5)
          have HB5K := Lib.hid bl5
          have HOL5 : Hid ((o ++ [(t, m)]).length = ol + 1) := by show _ = _; rw [List.length_append, hol.out]; rfl
          clear hap5 gr5 bl5
          clear hk1 hE hts hLt
          go_wp2_with (at_builtin; refine wpList_append_run rfl _ _ _ _ rfl _ _ rfl rfl HAP5.out ?_; clear HAP5)
          go_roundg (L - (j + 1))
          case rel => exact ⟨j + 1, A5, c5, ol + 1, o ++ [(t, m)], false, by omega, rfl, by go_num, rfl, rfl, HOL5, HF, HG5, HB5⟩
          case measure => have := HGK.out; omega
        | false =>
          have hat2 : P = (o ++ [(s, n)]) ++ restP true (l.drop j) s n := by
            have := hat.out
            rw [restP_ge s n hlt' hd hLt] at this
            rw [List.append_assoc]; exact this
          obtain ⟨A5, c5, w5, hap5, gr5, bl5, _, _, _⟩ := hgr.out.one (s, n) 24 (by omega) hbw.out.size
          rw [hol.out] at hap5
          simp only at hap5
          have HAP5 := Lib.hid hap5
          have HG5 := Lib.hid gr5
          have HB5 := Lib.hid (hbw.out.trans bl5)
          have HB5K := Lib.hid bl5
          have HOL5 : Hid ((o ++ [(s, n)]).length = ol + 1) := by show _ = _; rw [List.length_append, hol.out]; rfl
          clear hap5 gr5 bl5
          have g0' := (HB5K.out.cell (p := ⟨b, off + j * 2, none⟩) hbs).trans g0
          have g1' := (HB5K.out.cell (p := ⟨b, off + j * 2 + 1, none⟩) hbs).trans g1
          cases E with
          | true =>
            have hts := of_decide_eq_true hE
            have HF : Hid (P = (o ++ [(s, n)]) ++ restP true (l.drop (j + 1)) s n) := by
              have := hat2
              rw [hk1] at this
              simp only [hts, if_true, List.nil_append] at this
              exact this
            clear hk1 hE hts hLt hat2
            go_wp2_with (at_builtin; refine wpList_append_run rfl _ _ _ _ rfl _ _ rfl rfl HAP5.out ?_; clear HAP5)
            go_roundg (L - (j + 1))
            case rel => exact ⟨j + 1, A5, c5, ol + 1, o ++ [(s, n)], true, by omega, rfl, by go_num, rfl, rfl, HOL5, HF, HG5, HB5⟩
            case measure => have := HGK.out; omega
          | false =>
            have hts := of_decide_eq_false hE
            have HF : Hid (P = ((o ++ [(s, n)]) ++ [(t, m)]) ++ restP true (l.drop (j + 1)) s n) := by
              have := hat2
              rw [hk1] at this
              simp only [hts, if_false] at this
              rw [List.append_assoc (o ++ [(s, n)])]; exact this
            obtain ⟨A6, c6, w6, hap6, gr6, bl6, _, _, _⟩ := HG5.out.one (t, m) 24 (by simp; omega) HB5.out.size
            rw [HOL5.out] at hap6
            simp only at hap6
            have HAP6 := Lib.hid hap6
            have HG6 := Lib.hid gr6
            have HB6 := Lib.hid (HB5.out.trans bl6)
            have HOL6 : Hid (((o ++ [(s, n)]) ++ [(t, m)]).length = ol + 1 + 1) := by show _ = _; rw [List.length_append, HOL5.out]; rfl
            clear hap6 gr6 bl6 hk1 hE hts hLt hat2
            go_wp2_with (first
              | (at_builtin; refine wpList_append_run rfl _ _ _ _ rfl _ _ rfl rfl HAP5.out ?_; clear HAP5)
              | (at_builtin; refine wpList_append_run rfl _ _ _ _ rfl _ _ rfl rfl HAP6.out ?_; clear HAP6))
            go_roundg (L - (j + 1))
            case rel => exact ⟨j + 1, A6, c6, ol + 1 + 1, (o ++ [(s, n)]) ++ [(t, m)], true, by omega, rfl, by go_num, rfl, rfl, HOL6, HF, HG6, HB6⟩
            case measure => have := HGK.out; omega
    · have hin : j = L := by omega
      subst hin
      have hnil : l.drop j = [] := List.drop_eq_nil_of_le (by have := HL.out; omega)
      have hat2 := hat.out
      rw [hnil, restP_nil] at hat2
      cases dn with
      | true =>
        have HF : Hid (P = o) := by show _ = _; simpa using hat2
        clear hat2 hnil
        go_wp2
        go_ret
        exact ⟨⟨A', c', by rw [HF.out, hol.out]; rfl, by rw [HF.out]; exact hgr.out.ok (by omega)⟩, hbw.out⟩
      | false =>
        have HF : Hid (P = o ++ [(s, n)]) := by show _ = _; simpa using hat2
        clear hat2 hnil
        obtain ⟨A5, c5, w5, hap5, gr5, bl5, _, _, _⟩ := hgr.out.one (s, n) 24 (by omega) hbw.out.size
        rw [hol.out] at hap5
        simp only at hap5
        have HAP5 := Lib.hid hap5
        have HG5 := Lib.hid gr5
        have HB5 := Lib.hid (hbw.out.trans bl5)
        have HB5K := Lib.hid bl5
        have HOL5 : Hid ((o ++ [(s, n)]).length = ol + 1) := by show _ = _; rw [List.length_append, hol.out]; rfl
        clear hap5 gr5 bl5
        go_wp2_with (at_builtin; refine wpList_append_run rfl _ _ _ _ rfl _ _ rfl rfl HAP5.out ?_; clear HAP5)
        go_ret
        exact ⟨⟨A5, c5, by rw [HF.out, HOL5.out]; rfl, by rw [HF.out]; exact HG5.out.ok (by rw [HOL5.out]; have := hol.out; omega)⟩, HB5.out⟩
end Go.Proofs.Ytdffifkleaekhaa.V
