/-
  The reference's Meet.
-/
import Derived.Test.YtadcmljcbmfcaaaVLawMath
namespace Go.Proofs.Ytadcmljcbmfcaaa.V
open Go.RowKit
set_option linter.unusedVariables false
set_option linter.unusedSimpArgs false

def lsOf (ls : List Vc) : List (List D) := ls.map fun x => x.l
def rmeetO : List Vc → List D × Int
  | [] => ([], 2)
  | x :: t => if allR (x :: t) = true then (meetV x.l (lsOf (x :: t)), 0) else ([], 2)
theorem rmeetO_cons (x : Vc) (t : List Vc) : rmeetO (x :: t) = if allR (x :: t) = true then (meetV x.l (lsOf (x :: t)), 0) else ([], 2) := rfl
theorem meetO_cons (x : Vc) (t : List Vc) : meetO (x :: t) = if allR (x :: t) = true then (meetF x.l (x :: t), 0) else ([], 2) := rfl
theorem lowV_drop {ls : List Vc} {k : Nat} {y : Vc} (w : ByteArray) (n : Int) (hk : k < ls.length) (hd : ls[k]'hk = y) : lowV (lsOf (ls.drop k)) w n = lowV (lsOf (ls.drop (k + 1))) w (min n (at' y.l w)) := by
  rw [List.drop_eq_getElem_cons hk, hd]; rfl
theorem meetV_drop {a : List D} {l : List (List D)} {j : Nat} {d : D} (hj : j < a.length) (hd : a[j]'hj = d) : meetV (a.drop j) l = if 0 < lowV l d.1 d.2 then (d.1, lowV l d.1 d.2) :: meetV (a.drop (j + 1)) l else meetV (a.drop (j + 1)) l := by
  rw [List.drop_eq_getElem_cons hj, hd]
  unfold meetV
  rw [List.filterMap_cons]
  by_cases h : 0 < lowV l d.1 d.2
  · simp only [h, if_true]
  · simp only [h, if_false]
theorem meetF_does : ∀ (ls : List Vc) (o : List D), (∀ x ∈ ls, rightB x.l = true) → srt ordA o → pos o → srt ordA (meetF o ls) ∧ pos (meetF o ls) ∧ ∀ w, at' (meetF o ls) w = lowV (lsOf ls) w (at' o w)
  | [], o, _, so, po => ⟨so, po, fun _ => rfl⟩
  | x :: t, o, h, so, po => by
    have rx := h x (List.mem_cons_self ..)
    obtain ⟨h1, h2, h3⟩ := meetF_does t (meetL o x.l) (fun y hy => h y (List.mem_cons_of_mem _ hy)) (meetL_srt so (right_srt rx)) (meetL_pos _ _)
    refine ⟨h1, h2, fun w => ?_⟩
    have : meetF o (x :: t) = meetF (meetL o x.l) t := rfl
    rw [this, h3, meetL_at so (right_srt rx) po (right_pos rx)]
    rfl
theorem meets_same (ls : List Vc) : meetO ls = rmeetO ls := by
  cases ls with
  | nil => rfl
  | cons x t =>
    rw [meetO_cons, rmeetO_cons]
    by_cases h : allR (x :: t) = true
    · rw [if_pos h, if_pos h]
      have hall : ∀ y ∈ x :: t, rightB y.l = true := fun y hy => (List.all_eq_true.1 (show (x :: t).all (fun x => rightB x.l) = true from h)) y hy
      have rx := hall x (List.mem_cons_self ..)
      obtain ⟨h1, h2, h3⟩ := meetF_does (x :: t) x.l hall (right_srt rx) (right_pos rx)
      have e : meetF x.l (x :: t) = meetV x.l (lsOf (x :: t)) := at_ext ordA h1 (meetV_srt ordA _ (right_srt rx)) h2 (meetV_pos _ _) fun w => by
        rw [h3, meetV_at ordA (right_srt rx) (right_pos rx) (fun v hv => by
          obtain ⟨y, hy, rfl⟩ := List.mem_map.1 hv
          exact right_pos (hall y hy))]
      rw [e]
    · rw [if_neg h, if_neg h]

set_option maxRecDepth 100000 in
set_option maxHeartbeats 6400000 in
theorem rmeet_any {A : Option Addr} {ls : List Vc} (c : Nat) {w : World} (hr : RowL w w.heap.size A ls) (hl : ls.length ≤ 10000000000000) (hfit : ∀ x ∈ ls, Fit x.l) : Calls Try.prog 32 #[.slice A ls.length c] w fun e w' => VecR e w' (rmeetO ls) ∧ Below w.heap.size w w' := by
  obtain ⟨L, hL⟩ : ∃ L, ls.length = L := ⟨_, rfl⟩
  obtain ⟨R, hR⟩ : ∃ R, allR ls = R := ⟨_, rfl⟩
  obtain ⟨O, hO⟩ : ∃ O, rmeetO ls = O := ⟨_, rfl⟩
  rw [hO, hL]
  have HO := Lib.hid hO
  have HRv := Lib.hid hR
  have HR := Lib.hid hr
  have HL := Lib.hid hL
  have HFit := Lib.hid hfit
  have hlb : L ≤ 10000000000000 := by rw [← hL]; exact hl
  clear hr hl hfit hL hR hO
  go_enter Try.func32, Try.ntmps32
  go_wp2
  go_loopg [4] L (fun k i wr => ∃ (j : Nat), j ≤ L ∧ k = L - j ∧ i = .int .i64 j ∧ Hid (allR (ls.drop j) = R) ∧ Hid (Below w.heap.size w wr))
  case atStart => exact ⟨0, by omega, by omega, rfl, HRv.out, Below.refl _ w⟩
  case round =>
    obtain ⟨j, hj, hgk, rfl, hat, hbw⟩ := hrel
    have HGK := Lib.hid hgk; clear hgk
    by_cases hlt : j < L
    · have hlt' : j < ls.length := by rw [HL.out]; exact hlt
      obtain ⟨b, off, rfl, hbs, hc⟩ := HR.out (by omega)
      obtain ⟨c0, o0⟩ := hc j _ (List.getElem?_eq_getElem hlt')
      clear hc
      have hfx := HFit.out _ (List.getElem_mem hlt')
      obtain ⟨x, hd⟩ : ∃ x, ls[j]'hlt' = x := ⟨_, rfl⟩
      rw [hd] at c0 o0 hfx
      have hk := Lib.hid (allR_drop hlt' hd)
      have g0 := (hbw.out.cell (p := ⟨b, off + j, none⟩) hbs).trans c0
      have O2 := Lib.hid ((o0.below hbw.out).more hbw.out.size)
      have HFX := Lib.hid hfx
      clear c0 o0 hd hfx
      obtain ⟨xA, xc, xl⟩ := x
      simp only [Vc.v] at g0
      obtain ⟨xn, hN⟩ : ∃ N, xl.length = N := ⟨_, rfl⟩
      rw [hN] at g0
      have HN := Lib.hid hN
      clear hN
      go_wp2_with fail
      rw [← HN.out]
      refine (rright_any xc O2.out.1 O2.out.2.2.2 HFX.out).mono ?_
      rintro e w2 ⟨rfl, h2⟩
      rw [HN.out]
      have HB2 := Lib.hid (hbw.out.trans (h2.mono hbw.out.size))
      clear h2 O2 g0
      obtain ⟨Rx, hRx⟩ : ∃ R, rightB xl = R := ⟨_, rfl⟩
      rw [hRx]
      cases Rx with
      | true =>
        have hf := Lib.hid (show allR (ls.drop (j + 1)) = R by rw [← hat.out, hk.out, hRx]; rfl)
        clear hRx
        go_wp2
        go_roundg (L - (j + 1))
        case rel => exact ⟨j + 1, by omega, rfl, by go_num, hf, HB2⟩
        case measure => have := HGK.out; omega
      | false =>
        have hf := Lib.hid (show R = false by rw [← hat.out, hk.out, hRx]; rfl)
        have HOO : Hid (O = ([], 2)) := by
          show O = _
          rw [← HO.out]
          have hR2 : allR ls = false := HRv.out.trans hf.out
          cases ls with
          | nil => rfl
          | cons x t => rw [rmeetO_cons, if_neg (by rw [hR2]; decide)]
        clear hRx
        go_wp2
        go_ret2
        exact ⟨⟨none, 0, by rw [HOO.out]; rfl, by rw [HOO.out]; exact nil_ok _ _⟩, HB2.out⟩
    · have hin : j = L := by omega
      subst hin
      have hf : R = true := by rw [← hat.out, List.drop_eq_nil_of_le (by have := HL.out; omega)]; rfl
      subst hf
      clear hat hlt hj
      cases hls : ls with
      | nil =>
        have hj0 : j = 0 := by rw [← HL.out, hls]; rfl
        subst hj0
        have HOO : Hid (O = ([], 2)) := by show O = _; rw [← HO.out, hls]; rfl
        go_wp2
        go_ret2
        exact ⟨⟨none, 0, by rw [HOO.out]; rfl, by rw [HOO.out]; exact nil_ok _ _⟩, hbw.out⟩
      | cons x t =>
        have hpos : 0 < j := by rw [← HL.out, hls]; simp
        have hn0 : (((j : Nat) : Int) == 0) = false := by rw [beq_eq_false_iff_ne]; omega
        have hall : ∀ y ∈ ls, rightB y.l = true := fun y hy => (List.all_eq_true.1 (show ls.all (fun x => rightB x.l) = true from HRv.out)) y hy
        have HAll := Lib.hid hall
        obtain ⟨J, hJ⟩ : ∃ J, meetV x.l (lsOf ls) = J := ⟨_, rfl⟩
        have HJ := Lib.hid hJ
        have HOO : Hid (O = (J, 0)) := by
          show O = _
          rw [← HO.out, ← hJ]
          have h := HRv.out
          rw [hls] at h ⊢
          rw [rmeetO_cons, if_pos h]
        obtain ⟨b, off, rfl, hbs, hc⟩ := HR.out (by rw [hls]; simp)
        have HCells := Lib.hid hc
        have h0 := hc 0 x (by rw [hls]; rfl)
        have hrx := hall x (by rw [hls]; simp)
        have HRX := Lib.hid hrx
        have HX0 := Lib.hid h0
        have hxn64 := right_len hrx
        clear hall hJ hc h0 hrx hls
        obtain ⟨xA, xc, xl⟩ := x
        simp only at hxn64
        obtain ⟨xn, hxn⟩ : ∃ n, xl.length = n := ⟨_, rfl⟩
        rw [hxn] at hxn64
        have HXN := Lib.hid hxn
        have HX : Hid (∀ wr, Below w.heap.size w wr → wr.cell? ⟨b, off, none⟩ = some (.slice xA xn xc)) := fun wr hb => by
          have := (hb.cell (p := ⟨b, off + 0, none⟩) hbs).trans HX0.out.1
          rw [← hxn]; exact this
        have q0 := HX.out _ hbw.out
        clear hxn
        go_wp2
        clear q0
        go_loopg [6, 7] xn (fun k p i wr => ∃ (q : Nat) (A3 : Option Addr) (c3 ol : Nat) (o : List D), q ≤ xn ∧ k = xn - q ∧ i = .int .i64 q ∧ p = .slice A3 ol c3 ∧ Hid (o.length = ol ∧ ol ≤ q ∧ o ++ meetV (xl.drop q) (lsOf ls) = J) ∧ Hid (GrD wr w.heap.size A3 c3 o) ∧ Hid (Below w.heap.size w wr))
        case atStart => exact ⟨0, none, 0, 0, [], by omega, by omega, rfl, rfl, ⟨rfl, by omega, HJ.out⟩, GrD.nil _ _, hbw⟩
        case round =>
          obtain ⟨q, A3, c3, ol, o, hq, hgk, rfl, rfl, ho, hgr, hbe⟩ := hrel
          have HGK2 := Lib.hid hgk; clear hgk
          have q0 := HX.out _ hbe.out
          by_cases hlq : q < xn
          · have hlq' : q < xl.length := by rw [HXN.out]; exact hlq
            obtain ⟨b1, o1, hA1, hb1, d0, d1⟩ := HX0.out.2.1.at q hlq'
            simp only at hA1
            subst hA1
            obtain ⟨⟨s, n⟩, hd⟩ : ∃ d, xl[q]'hlq' = d := ⟨_, rfl⟩
            rw [hd] at d0 d1
            have HD : Hid (∀ wr, Below w.heap.size w wr → wr.cell? ⟨b1, o1 + q * 2, none⟩ = some (.string s) ∧ wr.cell? ⟨b1, o1 + q * 2 + 1, none⟩ = some (.int .i64 n)) := fun wr hb => ⟨(hb.cell (p := ⟨b1, o1 + q * 2, none⟩) hb1).trans d0, (hb.cell (p := ⟨b1, o1 + q * 2 + 1, none⟩) hb1).trans d1⟩
            have hk := meetV_drop (l := lsOf ls) hlq' hd
            simp only at hk
            have HK := Lib.hid hk
            obtain ⟨g0, g1⟩ := HD.out _ hbe.out
            obtain ⟨V, hV⟩ : ∃ V, lowV (lsOf ls) s n = V := ⟨_, rfl⟩
            have HV := Lib.hid hV
            clear hk d0 d1 hV hd
            go_wp2
            clear g0 g1 q0
            go_loopg [8, 9] j (fun k p i wr => ∃ (m : Nat) (z : Int), m ≤ j ∧ k = j - m ∧ i = .int .i64 m ∧ p = .int .i64 z ∧ Hid (lowV (lsOf (ls.drop m)) s z = V) ∧ Hid (GrD wr w.heap.size A3 c3 o) ∧ Hid (Below w.heap.size w wr))
            case atStart => exact ⟨0, n, by omega, by omega, rfl, rfl, HV.out, hgr, hbe⟩
            case round =>
              obtain ⟨m, z, hm, hgk, rfl, rfl, hz, hgr2, hbf⟩ := hrel
              have HGK3 := Lib.hid hgk; clear hgk
              have q0 := HX.out _ hbf.out
              obtain ⟨g0, g1⟩ := HD.out _ hbf.out
              by_cases hlm : m < j
              · have hlm' : m < ls.length := by rw [HL.out]; exact hlm
                obtain ⟨c0, o0⟩ := HCells.out m _ (List.getElem?_eq_getElem hlm')
                obtain ⟨y, hyd⟩ : ∃ y, ls[m]'hlm' = y := ⟨_, rfl⟩
                rw [hyd] at c0 o0
                have hlow := lowV_drop s z hlm' hyd
                have g2 := (hbf.out.cell (p := ⟨b, off + m, none⟩) hbs).trans c0
                have OY := Lib.hid ((o0.below hbf.out).more hbf.out.size)
                obtain ⟨yA, yc, yl⟩ := y
                simp only [Vc.v] at g2
                simp only at hlow
                obtain ⟨yn, hyn⟩ : ∃ n, yl.length = n := ⟨_, rfl⟩
                rw [hyn] at g2
                obtain ⟨Z, hZ⟩ : ∃ Z, at' yl s = Z := ⟨_, rfl⟩
                rw [hZ] at hlow
                have hmin : (if Z < z then Z else z) = min z Z := by omega
                rw [← hmin] at hlow
                obtain ⟨u, hu⟩ : ∃ u, (if Z < z then Z else z) = u := ⟨_, rfl⟩
                rw [hu] at hlow
                have HF : Hid (lowV (lsOf (ls.drop (m + 1))) s u = V) := by show _ = _; rw [← hlow]; exact hz.out
                have HYN := Lib.hid hyn
                have HZ := Lib.hid hZ
                clear c0 o0 hyd hlow hmin hyn hZ
                go_upto_region 17 with fail
                go_quiet (first | (refine Calls.quiet_of (rat_v yc s HZ.out HYN.out OY.out.2.2.2 ?_); exact RowD.drewN OY.out.1 _))
                go_wp2
                go_roundg (j - (m + 1))
                case rel => exact ⟨m + 1, u, by omega, rfl, by go_num, rfl, HF, hgr2.out.below (below_drewN (Below.refl _ _) _) (Nat.le_refl _), below_drewN hbf.out _⟩
                case measure => have := HGK3.out; omega
              · have hmj : m = j := by omega
                subst hmj
                have hzV : z = V := by
                  have := hz.out
                  rw [List.drop_eq_nil_of_le (by have := HL.out; omega)] at this
                  exact this
                subst hzV
                by_cases hz0 : 0 < z
                · have HF : Hid ((o ++ [(s, z)]).length = ol + 1 ∧ ol + 1 ≤ q + 1 ∧ (o ++ [(s, z)]) ++ meetV (xl.drop (q + 1)) (lsOf ls) = J) := by
                    refine ⟨by rw [List.length_append, ho.out.1]; rfl, by have := ho.out.2.1; omega, ?_⟩
                    have := ho.out.2.2
                    rw [HK.out, HV.out, if_pos hz0] at this
                    rw [List.append_assoc]; exact this
                  obtain ⟨A5, c5, w5, hap5, gr5, bl5, _, _, _⟩ := hgr2.out.one (s, z) 22 (by have := ho.out.1; have := ho.out.2.1; omega) hbf.out.size
                  rw [ho.out.1] at hap5
                  simp only at hap5
                  have HAP5 := Lib.hid hap5
                  have HG5 := Lib.hid gr5
                  have HB5 := Lib.hid (hbf.out.trans bl5)
                  clear hap5 gr5 bl5
                  go_wp2_with (at_builtin; refine wpList_append_run rfl _ _ _ _ rfl _ _ rfl rfl HAP5.out ?_; clear HAP5)
                  go_roundg (xn - (q + 1))
                  case rel => exact ⟨q + 1, A5, c5, ol + 1, o ++ [(s, z)], by omega, rfl, by go_num, rfl, HF, HG5, HB5⟩
                  case measure => have := HGK2.out; omega
                · have HF : Hid (o.length = ol ∧ ol ≤ q + 1 ∧ o ++ meetV (xl.drop (q + 1)) (lsOf ls) = J) := by
                    refine ⟨ho.out.1, by have := ho.out.2.1; omega, ?_⟩
                    have := ho.out.2.2
                    rw [HK.out, HV.out, if_neg hz0] at this
                    exact this
                  go_wp2
                  go_roundg (xn - (q + 1))
                  case rel => exact ⟨q + 1, A3, c3, ol, o, by omega, rfl, by go_num, rfl, HF, hgr2, hbf⟩
                  case measure => have := HGK2.out; omega
          · have hqx : q = xn := by omega
            subst hqx
            have hf : Hid (o = J) := by
              have := ho.out.2.2
              rw [List.drop_eq_nil_of_le (by have := HXN.out; omega)] at this
              show o = J
              rw [← this]; simp [meetV]
            go_wp2
            go_ret2
            exact ⟨⟨A3, c3, by rw [HOO.out, ← hf.out, ho.out.1]; rfl, by rw [HOO.out, ← hf.out]; exact hgr.out.ok (by have := ho.out.1; have := ho.out.2.1; omega)⟩, hbe.out⟩
end Go.Proofs.Ytadcmljcbmfcaaa.V
