/-
  VectorSpans: the walk of the law.
-/
import Derived.Test.YtadcmljcbmfcaaaVLawMath
namespace Go.Proofs.Ytadcmljcbmfcaaa.V
set_option linter.unusedVariables false
set_option linter.unusedSimpArgs false

theorem sub_len : ∀ (v u : List D), srt ordA u → srt ordA v → (∀ d ∈ u, ∃ e ∈ v, e.1 = d.1) → u.length ≤ v.length
  | [], [], _, _, _ => Nat.le_refl _
  | [], d :: s, _, _, h => by obtain ⟨e, he, _⟩ := h d (List.mem_cons_self ..); cases he
  | e :: t, [], _, _, _ => Nat.zero_le _
  | e :: t, d :: s, su, sv, h => by
    by_cases hde : e.1 = d.1
    · have := sub_len t s su.2 sv.2 fun x hx => by
        obtain ⟨y, hy, he⟩ := h x (List.mem_cons_of_mem _ hx)
        rcases List.mem_cons.1 hy with rfl | hy
        · exact absurd (he.symm.trans hde) (lt_ne ordA (su.1 x hx)).symm
        · exact ⟨y, hy, he⟩
      simp only [List.length_cons]; omega
    · have hall : ∀ x ∈ d :: s, ∃ y ∈ t, y.1 = x.1 := fun x hx => by
        obtain ⟨y, hy, he⟩ := h x hx
        rcases List.mem_cons.1 hy with rfl | hy
        · rcases List.mem_cons.1 hx with rfl | hx
          · exact absurd he hde
          · obtain ⟨y2, hy2, he2⟩ := h d (List.mem_cons_self ..)
            rcases List.mem_cons.1 hy2 with rfl | hy2
            · exact absurd he2 hde
            · have h1 : ltA y.1 y2.1 = true := sv.1 y2 hy2
              have h2 : ltA d.1 x.1 = true := su.1 x hx
              rw [he2, he] at h1
              exact absurd h1 (by rw [show ltA x.1 d.1 = false from lt_asym ordA h2]; decide)
        · exact ⟨y, hy, he⟩
      have := sub_len t (d :: s) su sv.2 hall
      simp only [List.length_cons] at this ⊢; omega
theorem at_sub_len {u v : List D} (su : srt ordA u) (sv : srt ordA v) (pu : pos u) (pv : pos v) (h : ∀ x, at' u x ≤ at' v x) : u.length ≤ v.length := by
  refine sub_len v u su sv fun d hd => ?_
  have e := at_mem ordA su hd
  have p := pu d hd
  have h1 := h d.1
  rw [e] at h1
  obtain ⟨n, hm, _⟩ := at_gt pv (w := d.1) (by omega)
  exact ⟨(d.1, n), hm, rfl⟩
theorem lackV_pair {a : List D} : ∀ {b : List D}, srt ordA b → (lackV a b).Pairwise fun x y => ltA x.1 y.1 = true
  | [], _ => List.Pairwise.nil
  | (w, m) :: t, h => by
    have ih := lackV_pair (a := a) h.2
    rw [lackV_cons]
    split
    · refine List.Pairwise.cons (fun x hx => ?_) ih
      obtain ⟨x1, x2, x3⟩ := x
      have := (lackV_mem.1 hx).1
      exact h.1 _ this
    · exact ih
/-- One step: the next dot of one, put to it. -/
theorem spans_step {a b V : List D} {w : ByteArray} {n : Int} (ra : rightB a = true) (rb : rightB b = true) (hj : (joinV ordA a b).length ≤ 64) (rV : rightB V = true) (hle : ∀ x, at' V x ≤ max (at' a x) (at' b x)) (hn : n = at' V w + 1) (hnb : n ≤ at' b w) :
    withO V (w, n) = (putV ordA V w n, 0) ∧ rightB (putV ordA V w n) = true ∧ ∀ x, at' (putV ordA V w n) x = if x = w then n else at' V x := by
  have h0 := right_at rV w
  have hb := right_le rb w
  have hname : nameB w = true := name_of rb (by omega)
  have hdot : dotB (w, n) = true := dotB_iff.2 ⟨hname, by show 1 ≤ n; omega, by show n ≤ _; omega⟩
  have hat := fun x => putV_at ordA (v := V) w n x
  have sP := putV_srt ordA (right_srt rV) w n
  have pP := putV_pos ordA (right_pos rV) (w := w) (n := n) (by omega)
  have jr := join_right ra rb hj
  have hlen : (putV ordA V w n).length ≤ 64 := Nat.le_trans (at_sub_len sP (right_srt jr) pP (right_pos jr) fun x => by
    rw [hat, join_at ra rb]
    split
    · rename_i hx; subst hx; omega
    · exact hle x) hj
  refine ⟨?_, right_of sP pP hlen fun x hx => ?_, hat⟩
  · rw [with_eq, if_pos (by rw [rV, hdot]; rfl), if_pos ⟨by omega, hlen⟩]
  · rw [hat] at hx ⊢
    split
    · rename_i e; subst e; exact ⟨hname, by omega⟩
    · rename_i e
      rw [if_neg e] at hx
      exact ⟨name_of rV hx, right_le rV x⟩
def inS (S : List T) (i : Nat) (x : ByteArray) : Bool := (S.take i).any fun e => decide (e.1 = x)
def gS (a b : List D) (S : List T) (i : Nat) (x : ByteArray) : Int := if inS S i x = true then at' b x else at' a x
theorem inS_next {S : List T} {i : Nat} {e : T} (h : i < S.length) (he : S[i]'h = e) (x : ByteArray) : inS S (i + 1) x = (inS S i x || decide (e.1 = x)) := by
  unfold inS
  rw [List.take_succ_eq_append_getElem h, he]
  simp
theorem inS_not {S : List T} (hp : S.Pairwise fun x y => ltA x.1 y.1 = true) {i : Nat} {e : T} (h : i < S.length) (he : S[i]'h = e) : inS S i e.1 = false := by
  unfold inS
  rw [List.any_eq_false]
  intro d hd
  obtain ⟨j, hj, rfl⟩ := List.mem_take_iff_getElem.1 hd
  simp only [decide_eq_true_eq]
  have := (List.pairwise_iff_getElem.1 hp) j i (by omega) h (by omega)
  rw [he] at this
  exact lt_ne ordA this
theorem gS_le {a b : List D} (S : List T) (i : Nat) (x : ByteArray) : gS a b S i x ≤ max (at' a x) (at' b x) := by
  unfold gS; split <;> omega
theorem gS_end {a b : List D} (ra : rightB a = true) (rb : rightB b = true) (x : ByteArray) : gS a b (lackV a b) (lackV a b).length x = max (at' a x) (at' b x) := by
  unfold gS
  by_cases h : inS (lackV a b) (lackV a b).length x = true
  · rw [if_pos h]
    unfold inS at h
    rw [List.take_length, List.any_eq_true] at h
    obtain ⟨⟨w, n, m⟩, he, hx⟩ := h
    simp only [decide_eq_true_eq] at hx
    subst hx
    obtain ⟨h1, h2, h3⟩ := lackV_mem.1 he
    have := at_mem ordA (right_srt rb) h1
    simp only at this
    omega
  · rw [if_neg h]
    have : ¬ at' a x < at' b x := fun hl => by
      have h0 := right_at ra x
      obtain ⟨m, hm, he⟩ := at_gt (right_pos rb) (w := x) (by omega)
      refine h ?_
      unfold inS
      rw [List.take_length, List.any_eq_true]
      exact ⟨(x, at' a x + 1, m), lackV_mem.2 ⟨hm, rfl, by omega⟩, by simp⟩
    omega
end Go.Proofs.Ytadcmljcbmfcaaa.V
namespace Go.Proofs.Ytadcmljcbmfcaaa.vectorSpans
open Go.RowKit Go.Proofs.Ytadcmljcbmfcaaa.V
set_option linter.unusedVariables false
set_option linter.unusedSimpArgs false

set_option maxRecDepth 100000 in
set_option maxHeartbeats 6400000 in
theorem walk (x y : Vc) (w : World) (hx : x.ok w w.heap.size) (hfx : Fit x.l) (hy : y.ok w w.heap.size) (hfy : Fit y.l) : Calls Try.prog 9 #[.slice x.A x.l.length x.c, .slice y.A y.l.length y.c] w fun e w' => e = .returned (.bool true) ∧ Below w.heap.size w w' := by
  obtain ⟨A, ca, a⟩ := x
  obtain ⟨B, cb, b⟩ := y
  simp only at *
  obtain ⟨la, hla⟩ : ∃ L, a.length = L := ⟨_, rfl⟩
  obtain ⟨lb, hlb⟩ : ∃ L, b.length = L := ⟨_, rfl⟩
  obtain ⟨S, hS⟩ : ∃ O, lackO a b = O := ⟨_, rfl⟩
  obtain ⟨O, hO⟩ : ∃ O, joinO a b = O := ⟨_, rfl⟩
  have HS := Lib.hid hS
  have HO := Lib.hid hO
  have HXY := Lib.hid (And.intro hx hy)
  have HN := Lib.hid (And.intro hla.symm hlb.symm)
  rw [hla, hlb]
  clear hS hO hx hy hfx hfy hla hlb
  go_enter Try.func9, Try.ntmps9
  go_wp2_with fail
  refine (shown_any _).mono ?_
  rintro e w2 ⟨rfl, hb2⟩
  have H2 := Lib.hid hb2
  have OX2 := Lib.hid (HXY.out.1.up hb2)
  have OY2 := Lib.hid (HXY.out.2.up hb2)
  clear hb2
  go_wp2_with fail
  rw [HN.out.1, HN.out.2]
  refine (lack_any OX2.out OY2.out).mono ?_
  rintro e w3 ⟨⟨A3, c3, rfl, ok3⟩, hb3⟩
  simp only [HS.out] at ok3 ⊢
  rw [← HN.out.1, ← HN.out.2]
  obtain ⟨S, z⟩ := S
  simp only at ok3 ⊢
  obtain ⟨ls, hls⟩ : ∃ k, S.length = k := ⟨_, rfl⟩
  rw [hls]
  have HLS := Lib.hid hls
  have H3 := Lib.hid (H2.out.trans (hb3.mono H2.out.size))
  have OX3 := Lib.hid (OX2.out.up hb3)
  have OY3 := Lib.hid (OY2.out.up hb3)
  have OS3 := Lib.hid ok3
  clear hb3 ok3 hls OX2 OY2
  go_wp2_with fail
  rw [HN.out.1, HN.out.2]
  refine (join_any OX3.out OY3.out).mono ?_
  rintro e w4 ⟨⟨A4, c4, rfl, ok4⟩, hb4⟩
  simp only [HO.out] at ok4 ⊢
  rw [← HN.out.1, ← HN.out.2]
  obtain ⟨j, z2⟩ := O
  simp only at ok4 ⊢
  obtain ⟨lj, hlj⟩ : ∃ k, j.length = k := ⟨_, rfl⟩
  rw [hlj]
  have HLJ := Lib.hid hlj
  have H4 := Lib.hid (H3.out.trans (hb4.mono H3.out.size))
  have OX4 := Lib.hid (OX3.out.up hb4)
  have OY4 := Lib.hid (OY3.out.up hb4)
  have RS4 : Hid (RowS w4 w4.heap.size A3 S) := (OS3.out.1.below hb4).more hb4.size
  have OS4 := Lib.hid (And.intro RS4.out OS3.out.2)
  have OJ4 := Lib.hid ok4
  clear hb4 ok4 hlj OX3 OY3 OS3 RS4
  by_cases hR : (rightB a && rightB b) = true
  · obtain ⟨ra, rb⟩ := Bool.and_eq_true_iff.1 hR
    have hS1 : (S, z) = (lackV a b, 0) := by rw [← HS.out]; unfold lackO; rw [if_pos hR]
    obtain ⟨rfl, rfl⟩ := Prod.mk.inj hS1
    by_cases h64 : (joinV ordA a b).length ≤ 64
    · have hO1 : (j, z2) = (joinV ordA a b, 0) := by rw [← HO.out]; exact joinO_yes ra rb h64
      obtain ⟨rfl, rfl⟩ := Prod.mk.inj hO1
      have HRA := Lib.hid ra
      have HRB := Lib.hid rb
      have H64 := Lib.hid h64
      have hls10 : ls ≤ 10000000 := by rw [← HLS.out]; exact OS4.out.2
      clear hS1 hO1 ra rb h64 hR HS HO
      obtain ⟨S, hSe⟩ : ∃ S, lackV a b = S := ⟨_, rfl⟩
      obtain ⟨j, hje⟩ : ∃ j, joinV ordA a b = j := ⟨_, rfl⟩
      rw [hSe] at HLS OS4
      rw [hje] at HLJ OJ4
      have HSE := Lib.hid hSe
      have HJE := Lib.hid hje
      clear hSe hje
      go_wp2
      go_loopg [10, 11, 12] ls (fun k p q i wr => ∃ (i' : Nat) (A5 : Option Addr) (c5 lv : Nat) (left : Int) (V : List D), i' ≤ ls ∧ k = ls - i' ∧ i = .int .i64 i' ∧ p = .slice A5 lv c5 ∧ q = .int .i64 left ∧ Hid (0 ≤ left ∧ left ≤ 500) ∧ Hid (V.length = lv ∧ rightB V = true ∧ ∀ x, at' V x = gS a b S i' x) ∧ Hid (Vc.ok ⟨A5, c5, V⟩ wr wr.heap.size) ∧ Hid (Below w4.heap.size w4 wr))
      case atStart => exact ⟨0, A, ca, la, 500, a, by omega, by omega, rfl, rfl, rfl, ⟨by omega, by omega⟩, ⟨HN.out.1.symm, HRA.out, fun x => by unfold gS inS; simp⟩, OX4, Below.refl _ _⟩
      case round =>
        obtain ⟨i, A5, c5, lv, left, V, hi, hgk, rfl, rfl, rfl, hleft, hV, hok, hbw⟩ := hrel
        have HGK := Lib.hid hgk; clear hgk
        by_cases hlt : i < ls
        · have hlt' : i < S.length := by rw [HLS.out]; exact hlt
          obtain ⟨bb, off, rfl, hbs, c0, c1, c2⟩ := OS4.out.1.at i hlt'
          obtain ⟨⟨s, f, t⟩, hd⟩ : ∃ d, S[i]'hlt' = d := ⟨_, rfl⟩
          rw [hd] at c0 c1 c2
          simp only at c0 c1 c2
          have HC : Hid (∀ wr, Below w4.heap.size w4 wr → wr.cell? ⟨bb, off + i * 3, none⟩ = some (.string s) ∧ wr.cell? ⟨bb, off + i * 3 + 1, none⟩ = some (.int .i64 f) ∧ wr.cell? ⟨bb, off + i * 3 + 2, none⟩ = some (.int .i64 t)) := fun wr hb => ⟨(hb.cell (p := ⟨bb, off + i * 3, none⟩) hbs).trans c0, (hb.cell (p := ⟨bb, off + i * 3 + 1, none⟩) hbs).trans c1, (hb.cell (p := ⟨bb, off + i * 3 + 2, none⟩) hbs).trans c2⟩
          have hmem : (s, f, t) ∈ lackV a b := by rw [HSE.out, ← hd]; exact List.getElem_mem hlt'
          obtain ⟨m1, m2, m3⟩ := lackV_mem.1 hmem
          have hbt := at_mem ordA (right_srt HRB.out) m1
          simp only at hbt
          have ha0 := right_at HRA.out s
          have hb1 := right_le HRB.out s
          have hnot := inS_not (by rw [← HSE.out]; exact lackV_pair (right_srt HRB.out)) hlt' hd
          have hnxt := inS_next hlt' hd
          simp only at hnot hnxt
          have HIn := Lib.hid (And.intro hnot hnxt)
          have hVs : at' V s = at' a s := by rw [hV.out.2.2, gS, hnot]; rfl
          have hft : f ≤ t := by omega
          have hf1 : 1 ≤ f := by omega
          have ht2 : t ≤ 4611686018427387904 := by omega
          have hleft' := hleft.out
          have hg1 : ¬ t < f := by omega
          have hw1 : IntKind.wrap .i64 (t - f) = t - f := by rw [IntKind.wrap_i64]; omega
          have hw2 : wrap64 (t - f) = t - f := by unfold wrap64; omega
          obtain ⟨c0', c1', c2'⟩ := HC.out _ hbw.out
          have HB2 : Hid (∀ k, Below w4.heap.size w4 (wr.drewN k)) := fun k => below_drewN hbw.out k
          have HOK2 : Hid (∀ k, Vc.ok ⟨A5, c5, V⟩ (wr.drewN k) (wr.drewN k).heap.size) := fun k => hok.out.up (below_drewN (Below.refl _ _) k)
          have HInv : Hid (f = at' a s + 1 ∧ t = at' b s ∧ at' V s = at' a s ∧ f ≤ t ∧ 1 ≤ f ∧ t ≤ 4611686018427387904) := ⟨m2, hbt.symm, hVs, hft, hf1, ht2⟩
          clear c0 c1 c2 hmem m1 m2 m3 hbt ha0 hb1 hnot hnxt hVs hd
          by_cases hge : left ≤ t - f
          · clear hf1 ht2 hleft'
            go_upto_region 11 with fail
            go_quiet (fail)
            go_wp2_with fail
            obtain ⟨d0, d1, d2⟩ := HC.out _ (HB2.out nq)
            have HBB := Lib.hid (HB2.out nq)
            generalize wr.drewN nq = wq at *
            clear nq
            go_upto_region 12 with fail
            go_quiet (fail)
            go_wp2
            go_ret
            exact ⟨by simp [hft], H4.out.trans ((below_drewN HBB.out _).mono H4.out.size)⟩
          · have hw3 : IntKind.wrap .i64 (left - (t - f)) = left - (t - f) := by rw [IntKind.wrap_i64]; omega
            have hw4 : wrap64 (left - (t - f)) = left - (t - f) := by unfold wrap64; omega
            have hw5 : IntKind.wrap .i64 (left - (t - f) - 1) = left - (t - f) - 1 := by rw [IntKind.wrap_i64]; omega
            have hw6 : wrap64 (left - (t - f) - 1) = left - (t - f) - 1 := by unfold wrap64; omega
            have HLeft : Hid (0 ≤ left - (t - f) - 1 ∧ left - (t - f) - 1 ≤ 500) := ⟨by omega, by omega⟩
            have hge2 : ¬ left ≤ t - f := hge
            clear hf1 ht2 hleft'
            go_upto_region 11 with fail
            go_quiet (fail)
            go_wp2_with fail
            obtain ⟨d0, d1, d2⟩ := HC.out _ (HB2.out nq)
            have HBB := Lib.hid (HB2.out nq)
            have HOKB := Lib.hid (HOK2.out nq)
            clear c0' c1' c2' HB2 HOK2 hok hbw
            generalize wr.drewN nq = wq at *
            clear nq
            go_upto_region 13 with fail
            go_quiet (fail)
            clear d0 d1 d2
            obtain ⟨d0, d1, d2⟩ := HC.out _ (below_drewN HBB.out nq)
            have HBB2 := Lib.hid (below_drewN HBB.out nq)
            have HOKB2 := Lib.hid (HOKB.out.up (below_drewN (Below.refl _ _) nq))
            clear HBB HOKB
            generalize wq.drewN nq = wq2 at *
            go_wp2
            clear d0 d1 d2
            go_loopg [10, 13] (t + 1 - f).toNat (fun k p q wr => ∃ (n : Int) (A6 : Option Addr) (c6 lv6 : Nat) (V6 : List D), f ≤ n ∧ n ≤ t + 1 ∧ k = (t + 1 - n).toNat ∧ p = .slice A6 lv6 c6 ∧ q = .int .i64 n ∧ Hid (V6.length = lv6 ∧ rightB V6 = true ∧ ∀ x, at' V6 x = if x = s then n - 1 else gS a b S i x) ∧ Hid (Vc.ok ⟨A6, c6, V6⟩ wr wr.heap.size) ∧ Hid (Below w4.heap.size w4 wr))
            case atStart =>
              refine ⟨f, A5, c5, lv, V, by omega, by omega, rfl, rfl, rfl, ⟨hV.out.1, hV.out.2.1, fun x => ?_⟩, HOKB2, HBB2⟩
              rw [hV.out.2.2]
              split
              · rename_i e
                subst e
                have h1 := HInv.out
                rw [← hV.out.2.2, h1.2.2.1]; omega
              · rfl
            case round =>
              obtain ⟨n, A6, c6, lv6, V6, hn1, hn2, hgk, rfl, rfl, hV6, hok6, hb6⟩ := hrel
              have HGK2 := Lib.hid hgk; clear hgk
              obtain ⟨d0, d1, d2⟩ := HC.out _ hb6.out
              by_cases hnt : n ≤ t
              · have hInv := HInv.out
                have hstep := spans_step HRA.out HRB.out H64.out hV6.out.2.1 (w := s) (n := n) (fun x => by
                  rw [hV6.out.2.2]
                  split
                  · rename_i e; subst e; omega
                  · exact gS_le S i x) (by rw [hV6.out.2.2, if_pos rfl]; omega) (by omega)
                have hdot : dotB (s, n) = true := dotB_iff.2 ⟨name_of HRB.out (w := s) (by omega), by show 1 ≤ n; omega, by show n ≤ _; omega⟩
                have hha : hasB a (s, n) = false := by
                  unfold hasB
                  rw [HRA.out, hdot]
                  simp only [Bool.true_and, decide_eq_false_iff_not]
                  omega
                have hhb : hasB b (s, n) = true := by
                  unfold hasB
                  rw [HRB.out, hdot]
                  simp only [Bool.true_and, decide_eq_true_eq]
                  omega
                obtain ⟨V7, hV7⟩ : ∃ V, putV ordA V6 s n = V := ⟨_, rfl⟩
                rw [hV7] at hstep
                have HStep := Lib.hid hstep
                have HV7 : Hid (∀ k, V7.length = k → Hid (V7.length = k ∧ rightB V7 = true ∧ ∀ x, at' V7 x = if x = s then n + 1 - 1 else gS a b S i x)) := fun k hk => ⟨hk, hstep.2.1, fun x => by
                  rw [hstep.2.2]
                  split
                  · omega
                  · rename_i e; rw [hV6.out.2.2, if_neg e]⟩
                have hw7 : IntKind.wrap .i64 (n + 1) = n + 1 := by rw [IntKind.wrap_i64]; omega
                have hw8 : wrap64 (n + 1) = n + 1 := by unfold wrap64; omega
                have HHA := Lib.hid hha
                have HHB := Lib.hid hhb
                obtain ⟨Wd, hWd⟩ : ∃ Wd, wr.alloc (.cells #[.string s, .int .i64 n] 24) = Wd := ⟨_, rfl⟩
                have hbd : Below wr.heap.size wr Wd := by rw [← hWd]; exact (Below.refl _ wr).alloc (Nat.le_refl _) _
                have htd : Two Wd wr.heap.size (.string s) (.int .i64 n) := by rw [← hWd]; exact Two.new wr _ _
                have hbwd := hb6.out.trans (hbd.mono hb6.out.size)
                have HWd := Lib.hid hWd
                have HTd := Lib.hid htd
                have HBWd := Lib.hid hbwd
                have OAd := Lib.hid (OX4.out.up hbwd)
                have OBd := Lib.hid (OY4.out.up hbwd)
                have OVd := Lib.hid (hok6.out.up hbd)
                have e0 := htd.c0
                have e1 := htd.c1
                clear hstep hdot hha hhb hV7 hInv hWd hbd htd hbwd hw1 hw2 hw3 hw4 hw5 hw6
                go_wp2_with fail
                rw [HWd.out, HN.out.1]
                refine (has_any ca s n OAd.out.1 OAd.out.2.2.2).mono ?_
                rintro e w8 ⟨rfl, hb8⟩
                rw [HHA.out, ← HN.out.1]
                have HB8 := Lib.hid (HBWd.out.trans (hb8.mono HBWd.out.size))
                have OB8 := Lib.hid (OBd.out.up hb8)
                have OV8 := Lib.hid (OVd.out.up hb8)
                have T8 := HTd.out.below hb8 HTd.out.lt
                have HT8 := Lib.hid T8
                clear d0 d1 d2 e0 e1 hb8 OAd OBd OVd HTd HBWd
                have e0 := T8.c0
                have e1 := T8.c1
                clear T8
                go_wp2_with fail
                rw [HN.out.2]
                refine (has_any cb s n OB8.out.1 OB8.out.2.2.2).mono ?_
                rintro e w9 ⟨rfl, hb9⟩
                rw [HHB.out, ← HN.out.2]
                have HB9 := Lib.hid (HB8.out.trans (hb9.mono HB8.out.size))
                have OV9 := Lib.hid (OV8.out.up hb9)
                have T9 := HT8.out.below hb9 HT8.out.lt
                clear e0 e1 hb9 OB8 OV8 HT8 HB8
                have e0 := T9.c0
                have e1 := T9.c1
                clear T9
                have hcall := with_any s n OV9.out
                rw [HStep.out.1, hV6.out.1] at hcall
                have HCall := Lib.hid hcall
                clear hcall
                go_wp2_with fail
                refine HCall.out.mono ?_
                rintro e w10 ⟨⟨A7, c7, rfl, ok7⟩, hb10⟩
                simp only at ok7 ⊢
                obtain ⟨lv7, hlv7⟩ : ∃ k, V7.length = k := ⟨_, rfl⟩
                rw [hlv7]
                have HV8 := HV7.out lv7 hlv7
                have HB10 := Lib.hid (HB9.out.trans (hb10.mono HB9.out.size))
                have OK7 := Lib.hid ok7
                have d0 := HC.out _ HB10.out
                obtain ⟨d0, d1, d2⟩ := d0
                clear e0 e1 hb10 ok7 hlv7 HCall OV9 HV7
                go_wp2
                go_roundg (t + 1 - (n + 1)).toNat
                case rel => exact ⟨n + 1, A7, c7, lv7, V7, by omega, by omega, rfl, rfl, rfl, HV8, OK7, HB10⟩
                case measure => have := HGK2.out; omega
              · have hnt' : n = t + 1 := by omega
                subst hnt'
                have HV7 : Hid (V6.length = lv6 ∧ rightB V6 = true ∧ ∀ x, at' V6 x = gS a b S (i + 1) x) := ⟨hV6.out.1, hV6.out.2.1, fun x => by
                  rw [hV6.out.2.2]
                  have h1 := HInv.out
                  unfold gS
                  rw [HIn.out.2]
                  by_cases e : x = s
                  · subst e
                    rw [if_pos rfl, if_pos (by simp)]; omega
                  · rw [if_neg e]
                    have e2 : decide (s = x) = false := decide_eq_false (Ne.symm e)
                    rw [e2, Bool.or_false]⟩
                go_wp2
                go_roundg (ls - (i + 1))
                case rel => exact ⟨i + 1, A6, c6, lv6, left - (t - f) - 1, V6, by omega, rfl, by go_num, rfl, rfl, HLeft, HV7, hok6, hb6⟩
                case measure => have := HGK.out; omega
        · have hin : i = ls := by omega
          subst hin
          have hVj : V = j := by
            rw [← HJE.out]
            refine vec_ext hV.out.2.1 (join_right HRA.out HRB.out H64.out) fun x => ?_
            rw [hV.out.2.2, join_at HRA.out HRB.out, ← HLS.out, ← HSE.out]
            exact gS_end HRA.out HRB.out x
          subst hVj
          have hll : lv = lj := by rw [← hV.out.1, HLJ.out]
          subst hll
          have OJ5 := OJ4.out.up hbw.out
          have hsame := same_any c5 c4 hok.out.1 hok.out.2.2.2 OJ5.1 OJ5.2.2.2
          simp only [HLJ.out, decide_true] at hsame
          have HSame := Lib.hid hsame
          clear hsame OJ5
          go_wp2_with fail
          refine HSame.out.mono ?_
          rintro e w9 ⟨rfl, hb9⟩
          have H9 := Lib.hid (H4.out.trans ((hbw.out.trans (hb9.mono hbw.out.size)).mono H4.out.size))
          clear hb9 HSame
          go_wp2
          go_ret
          exact ⟨rfl, H9.out⟩
    · have hO1 : (j, z2) = ([], 70) := by rw [← HO.out]; exact joinO_no ra rb h64
      obtain ⟨rfl, rfl⟩ := Prod.mk.inj hO1
      go_wp2
      go_ret
      exact ⟨rfl, H4.out⟩
  · have hS1 : (S, z) = ([], 2) := by rw [← HS.out]; unfold lackO; rw [if_neg hR]
    obtain ⟨rfl, rfl⟩ := Prod.mk.inj hS1
    go_wp2
    go_ret
    exact ⟨rfl, H4.out⟩
end Go.Proofs.Ytadcmljcbmfcaaa.vectorSpans
