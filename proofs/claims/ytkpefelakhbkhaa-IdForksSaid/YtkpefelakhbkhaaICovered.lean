/-
  The program's covered.
-/
import Derived.Test.YtkpefelakhbkhaaIEmpty
namespace Go.Proofs.Ytkpefelakhbkhaa.I
open Go.RowKit

theorem GrE.beside {w w' : World} {base c : Nat} {A B : Option Addr} {l : List El} (h : GrE w base B c l) (hk : ∀ k, k < w.heap.size → blk A ≠ some k → w'.heap[k]? = w.heap[k]?) (hd : ∀ k, blk B = some k → blk A ≠ some k) : GrE w' base B c l := by
  refine ⟨h.1, ?_⟩
  rcases h.2 with ⟨e, h0⟩ | ⟨g, cap, cur, e, hb', hc, h1⟩
  · exact .inl ⟨e, h0⟩
  · injection e with e1 e2 e3
    refine .inr ⟨g, cap, cur, by rw [e1, e3], hb', (hk g (Array.getElem?_eq_some_iff.1 hc).1 (hd g (by rw [e1]; rfl))).trans hc, h1⟩
theorem GrE.cap {w : World} {base c : Nat} {A : Option Addr} {l : List El} (h : GrE w base A c l) : l.length ≤ c := by
  rcases h.cases with ⟨_, rfl, rfl⟩ | ⟨_, _, _, _, _, h1, _⟩
  · simp
  · exact h1
theorem take_kids (ts : List Tr) (j : Nat) (h : j < ts.length) (k : Tr → List Tr) : (ts.take (j + 1)).flatMap k = (ts.take j).flatMap k ++ k ts[j] := by
  rw [List.take_succ_eq_append_getElem h, List.flatMap_append, List.flatMap_singleton]

set_option maxRecDepth 100000 in
set_option maxHeartbeats 6400000 in
theorem covered_any : ∀ (N : Nat) (ts : List Tr) (A : Option Addr) (c : Nat) (l : List El) (w : World), sumN ts < N → RowE w w.heap.size A l → InL w w.heap.size l ts → l.length ≤ 100 → l.length ≤ c →
    Calls Try.prog 48 #[.slice A l.length c] w fun e w' => e = .returned (.bool (cov N ts)) ∧ Below w.heap.size w w' := by
  intro N
  induction N with
  | zero => intro ts A c l w h; omega
  | succ N ih =>
  intro ts A c l w hN hr hin hl hcap
  have HR := Lib.hid hr
  have HI := Lib.hid hin
  have HIH := Lib.hid ih
  have HNN := Lib.hid hN
  clear hr hin ih hN
  go_enter Try.func48, Try.ntmps48
  go_wp2
  go_loopg [3, 4, 9] l.length (fun k f s i wr => ∃ (j : Nat) (lf ls : List El) (Af As : Option Addr) (cf cs : Nat), j ≤ l.length ∧ k = l.length - j ∧ f = .slice Af lf.length cf ∧ s = .slice As ls.length cs ∧ i = .int .i64 j ∧ Hid (InL w w.heap.size lf ((ts.take j).flatMap kidL)) ∧ Hid (InL w w.heap.size ls ((ts.take j).flatMap kidR)) ∧ Hid (∀ t ∈ ts.take j, isOne t = false) ∧ Hid (GrE wr w.heap.size Af cf lf) ∧ Hid (GrE wr w.heap.size As cs ls) ∧ Hid (∀ k, blk Af = some k → blk As ≠ some k) ∧ Hid (Below w.heap.size w wr) ∧ lf.length ≤ j ∧ ls.length ≤ j)
  case atStart => exact ⟨0, [], [], none, none, 0, 0, by omega, by omega, rfl, rfl, rfl, ⟨by simp, by simp⟩, ⟨by simp, by simp⟩, fun t h => by simp at h, GrE.nil _ _, GrE.nil _ _, fun k h => by simp [blk] at h, Below.refl _ _, by simp, by simp⟩
  case round =>
    obtain ⟨j, lf, ls, Af, As, cf, cs, hj, hgk, rfl, rfl, rfl, hif, his, hno, hgf, hgs, hdis, hB, hlf, hls⟩ := hrel
    have HGK := Lib.hid hgk; clear hgk
    by_cases hlt : j < l.length
    · have hlt2 : j < ts.length := by rw [← HI.out.1]; exact hlt
      obtain ⟨b, off, hAeq, hb, f0, f1⟩ := (HR.out.up hB.out).at j hlt
      have HIN0 := Lib.hid (HI.out.2 j _ _ (List.getElem?_eq_getElem hlt) (List.getElem?_eq_getElem hlt2))
      have HTL := Lib.hid (take_kids ts j hlt2 kidL)
      have HTR := Lib.hid (take_kids ts j hlt2 kidR)
      have HTO : Hid (isOne ts[j] = false → ∀ t ∈ ts.take (j + 1), isOne t = false) := fun h t ht => by
        rw [List.take_succ_eq_append_getElem hlt2, List.mem_append, List.mem_singleton] at ht
        rcases ht with ht | rfl
        · exact hno.out t ht
        · exact h
      have HFX : Hid (isOne ts[j] = true → cov (N + 1) ts = ((ts.take j).all (onlyT false) && (ts.drop (j + 1)).all (onlyT false))) := fun h => by
        have : ts.findIdx? isOne = some j := List.findIdx?_eq_some_iff_getElem.2 ⟨hlt2, h, fun i hi => by
          rw [hno.out _ (List.mem_take_iff_getElem.2 ⟨i, by omega, rfl⟩)]; simp⟩
        simp only [cov, this]
      obtain ⟨t, ht⟩ : ∃ t, ts[j] = t := ⟨_, rfl⟩
      obtain ⟨e, he⟩ : ∃ e, l[j] = e := ⟨_, rfl⟩
      rw [ht] at HIN0 HTL HTR HTO HFX
      rw [he] at HIN0 f0 f1
      obtain ⟨o, A1, n1, c1⟩ := e
      simp only at f0 f1
      unfold El.v at HIN0
      simp only at HIN0
      subst hAeq
      have hc := pleaf_any o A1 n1 c1 (wr.alloc (.cells #[.bool o, .slice A1 n1 c1] 24))
      unfold tv at hc
      clear ht he hno
      go_wp2_with fail
      refine hc.mono ?_
      rintro e w2 ⟨rfl, hb2⟩
      have hbr : Below wr.heap.size wr w2 := ((Below.refl _ wr).alloc (Nat.le_refl _) _).trans (hb2.mono (by simp))
      have hbx : w2.heap[wr.heap.size]? = some (.cells #[.bool o, .slice A1 n1 c1] 24 (0, 0)) := (hb2.block _ (by simp)).trans (heap_alloc_new wr _)
      have hs2 : wr.heap.size < w2.heap.size := by have := hb2.size; simp at this; omega
      have hB2 : Below w.heap.size w w2 := hB.out.trans (hbr.mono hB.out.size)
      have hgf2 := hgf.out.below hbr (Nat.le_refl _)
      have hgs2 := hgs.out.below hbr (Nat.le_refl _)
      have hltf := hgf.out.lt
      have hlts := hgs.out.lt
      clear hb2 hc hgf hgs f0 f1
      rcases HIN0.out.leafy with ⟨rfl, rfl⟩ | ⟨rfl, rfl, x, y, rfl⟩
      · cases o with
        | true =>
          have k0 : w2.cell? ⟨wr.heap.size, 0, none⟩ = some (.bool true) := by rw [cell_of_row w2 _ 0 _ 24 (0, 0) hbx]; rfl
          have HF := Lib.hid (HFX.out rfl)
          have hlen : (l.take j).length = j := by rw [List.length_take]; omega
          have hc1 := empty_any (some ⟨b, off, none⟩) c (l.take j) (ts.take j) w2 ((HR.out.up hB2).take j) ((HI.out.up hB2).take j) (by omega)
          rw [hlen] at hc1
          have hlen2 : (l.drop (j + 1)).length = l.length - (j + 1) := List.length_drop
          have HC2 : Hid (∀ W, Below w.heap.size w W → ∀ cc, Calls Try.prog 72 #[.slice (some ⟨b, off + (j + 1) * 2, none⟩) (l.length - (j + 1)) cc] W fun e w' => e = .returned (.bool ((ts.drop (j + 1)).all (onlyT false))) ∧ Below W.heap.size W w') := fun W hW cc => by
            have := empty_any (some ⟨b, off + (j + 1) * 2, none⟩) cc (l.drop (j + 1)) (ts.drop (j + 1)) W ((HR.out.up hW).drop (j + 1)) ((HI.out.up hW).drop (j + 1)) (by rw [hlen2]; omega)
            rw [hlen2] at this
            exact this
          have HC3 : Hid (j + 1 = c → ∀ W, Below w.heap.size w W → ∀ cc, Calls Try.prog 72 #[.slice (some ⟨b, off, none⟩) 0 cc] W fun e w' => e = .returned (.bool ((ts.drop (j + 1)).all (onlyT false))) ∧ Below W.heap.size W w') := fun hjc W hW cc => by
            have hn : l.drop (j + 1) = [] := List.drop_eq_nil_of_le (by omega)
            have := empty_any (some ⟨b, off, none⟩) cc (l.drop (j + 1)) (ts.drop (j + 1)) W (by rw [hn]; exact fun h => absurd h (by simp)) ((HI.out.up hW).drop (j + 1)) (by rw [hn]; simp)
            rw [hn] at this
            exact this
          have HB2 := Lib.hid hB2
          obtain ⟨q1, hq1⟩ : ∃ q, (ts.take j).all (onlyT false) = q := ⟨_, rfl⟩
          obtain ⟨q2, hq2⟩ : ∃ q, (ts.drop (j + 1)).all (onlyT false) = q := ⟨_, rfl⟩
          rw [hq1] at hc1 HF
          rw [hq2] at HF HC2 HC3
          clear HFX HTO HTL HTR hif his hdis hgf2 hgs2 hltf hlts hlen hlen2 hbx hbr hq1 hq2 HIN0 hB2
          go_wp2_with fail
          refine hc1.mono ?_
          rintro e w3 ⟨rfl, hb3⟩
          have HB3 : Hid (Below w.heap.size w w3) := HB2.out.trans (hb3.mono HB2.out.size)
          clear hb3 hc1 k0
          cases q1 with
          | false =>
            go_wp2
            go_ret
            exact ⟨ret_bool (by rw [HF.out]; rfl), HB3.out⟩
          | true =>
            by_cases hjc : j + 1 = c
            · have hle : l.length - (j + 1) = 0 := by omega
              have hcc := HC3.out hjc w3 HB3.out
              clear HC2 HC3
              go_wp2_with fail
              refine (hcc _).mono ?_
              rintro e w4 ⟨rfl, hb4⟩
              have HB4 : Hid (Below w.heap.size w w4) := HB3.out.trans (hb4.mono HB3.out.size)
              clear hb4 hcc
              go_wp2
              go_ret
              exact ⟨ret_bool (by rw [HF.out, Bool.true_and]), HB4.out⟩
            · have hjc2 : j + 1 < c := by omega
              have hcc := HC2.out w3 HB3.out
              clear HC2 HC3
              go_wp2_with fail
              refine (hcc _).mono ?_
              rintro e w4 ⟨rfl, hb4⟩
              have HB4 : Hid (Below w.heap.size w w4) := HB3.out.trans (hb4.mono HB3.out.size)
              clear hb4 hcc
              go_wp2
              go_ret
              exact ⟨ret_bool (by rw [HF.out, Bool.true_and]), HB4.out⟩
        | false =>
          have k0 : w2.cell? ⟨wr.heap.size, 0, none⟩ = some (.bool false) := by rw [cell_of_row w2 _ 0 _ 24 (0, 0) hbx]; rfl
          have HRel : Hid (InL w w.heap.size lf ((ts.take (j + 1)).flatMap kidL) ∧ InL w w.heap.size ls ((ts.take (j + 1)).flatMap kidR) ∧ (∀ t ∈ ts.take (j + 1), isOne t = false) ∧ GrE w2 w.heap.size Af cf lf ∧ GrE w2 w.heap.size As cs ls ∧ Below w.heap.size w w2) :=
            ⟨by rw [HTL.out]; simp only [kidL, List.append_nil]; exact hif.out, by rw [HTR.out]; simp only [kidR, List.append_nil]; exact his.out, HTO.out rfl, hgf2, hgs2, hB2⟩
          have HD := Lib.hid hdis.out
          clear HFX HTO HTL HTR hif his hdis hgf2 hgs2 hltf hlts hbx hbr HIN0 hB2
          go_wp2
          go_roundg (l.length - (j + 1))
          case measure => have := HGK.out; omega
          case rel => exact ⟨j + 1, lf, ls, Af, As, cf, cs, by omega, rfl, rfl, rfl, by go_num, HRel.out.1, HRel.out.2.1, HRel.out.2.2.1, HRel.out.2.2.2.1, HRel.out.2.2.2.2.1, HD.out, HRel.out.2.2.2.2.2, by omega, by omega⟩
      · obtain ⟨b', off', c', he', hb', ⟨o3, A3, n3, c3, x1, x2, x3⟩, ⟨o4, A4, n4, c4, y1, y2, y3⟩⟩ := HIN0.out
        unfold tv at he'
        injection he' with he'
        injection he' with he'
        injection he' with _ he'
        injection he' with he' _
        injection he' with e1 _ e3
        subst e1; subst e3
        have hbase : w.heap.size ≤ w2.heap.size := hB2.size
        obtain ⟨Ag, cg, w3, hap1, hg1, hbb1, hk1, hsz1, hat1⟩ := hgf2.one ⟨o3, A3, n3, c3⟩ 22 (by omega) hbase
        have hd12 : ∀ k, blk As = some k → blk Af ≠ some k := fun k h1 h2 => hdis.out k h2 h1
        have hgs3 := hgs2.beside hk1 hd12
        have hB3 : Below w.heap.size w w3 := hB2.trans hbb1
        obtain ⟨Ah, ch, w4, hap2, hg2, hbb2, hk2, hsz2, hat2⟩ := hgs3.one ⟨o4, A4, n4, c4⟩ 22 (by omega) hB3.size
        have hdg : ∀ k, blk Ag = some k → blk As ≠ some k := fun k h1 h2 => by
          rcases hat1 with h | ⟨k', h, hk⟩
          · rw [h] at h1; exact hdis.out k h1 h2
          · rw [h] at h1; injection h1 with h1; subst h1
            have := (hlts k' h2).2; omega
        have hg1' := hg1.beside hk2 hdg
        have hdh : ∀ k, blk Ag = some k → blk Ah ≠ some k := fun k h1 h2 => by
          rcases hat2 with h | ⟨k', h, hk⟩
          · rw [h] at h2; exact hdg k h1 h2
          · rw [h] at h2; injection h2 with h2; subst h2
            have := (hg1.lt k' h1).2; omega
        have hB4 : Below w.heap.size w w4 := hB3.trans hbb2
        have hbx3 : w3.heap[wr.heap.size]? = some (.cells #[.bool false, .slice (some ⟨b', off', none⟩) 2 c1] 24 (0, 0)) := (hk1 _ hs2 (fun h => by have := (hltf _ h).2; omega)).trans hbx
        have k0 : w2.cell? ⟨wr.heap.size, 1, none⟩ = some (.slice (some ⟨b', off', none⟩) 2 c1) := by rw [cell_of_row w2 _ 1 _ 24 (0, 0) hbx]; rfl
        have k1 : w3.cell? ⟨wr.heap.size, 1, none⟩ = some (.slice (some ⟨b', off', none⟩) 2 c1) := by rw [cell_of_row w3 _ 1 _ 24 (0, 0) hbx3]; rfl
        have m1 := (hB2.cell (p := ⟨b', off', none⟩) hb').trans x1
        have m2 := (hB2.cell (p := ⟨b', off' + 1, none⟩) hb').trans x2
        have m3 := (hB3.cell (p := ⟨b', off' + 2, none⟩) hb').trans y1
        have m4 := (hB3.cell (p := ⟨b', off' + 2 + 1, none⟩) hb').trans y2
        have HRel : Hid (InL w w.heap.size (lf ++ [⟨o3, A3, n3, c3⟩]) ((ts.take (j + 1)).flatMap kidL) ∧ InL w w.heap.size (ls ++ [⟨o4, A4, n4, c4⟩]) ((ts.take (j + 1)).flatMap kidR) ∧ (∀ t ∈ ts.take (j + 1), isOne t = false) ∧ GrE w4 w.heap.size Ag cg (lf ++ [⟨o3, A3, n3, c3⟩]) ∧ GrE w4 w.heap.size Ah ch (ls ++ [⟨o4, A4, n4, c4⟩]) ∧ Below w.heap.size w w4) :=
          ⟨by rw [HTL.out]; exact hif.out.app x3, by rw [HTR.out]; exact his.out.app y3, HTO.out rfl, hg1', hg2, hB4⟩
        have HD := Lib.hid hdh
        have HAP1 := Lib.hid hap1
        have HAP2 := Lib.hid hap2
        have el1 : (lf ++ [(⟨o3, A3, n3, c3⟩ : El)]).length = lf.length + 1 := by simp
        have el2 : (ls ++ [(⟨o4, A4, n4, c4⟩ : El)]).length = ls.length + 1 := by simp
        clear HFX HTO HTL HTR hif his hdis hgf2 hgs2 hltf hlts hbx hbr HIN0 hB2 hB3 hB4 hbx3 hk1 hk2 hat1 hat2 hdg hdh hd12 hg1 hg1' hg2 hgs3 hap1 hap2 hbb1 hbb2 x1 x2 x3 y1 y2 y3
        go_wp2_with first
          | (at_builtin; refine wpList_append_run rfl _ _ _ _ rfl _ _ rfl rfl HAP1.out ?_; clear HAP1)
          | (at_builtin; refine wpList_append_run rfl _ _ _ _ rfl _ _ rfl rfl HAP2.out ?_; clear HAP2)
        go_roundg (l.length - (j + 1))
        case measure => have := HGK.out; omega
        case rel => exact ⟨j + 1, _, _, Ag, Ah, cg, ch, by omega, rfl, by rw [el1], by rw [el2], by go_num, HRel.out.1, HRel.out.2.1, HRel.out.2.2.1, HRel.out.2.2.2.1, HRel.out.2.2.2.2.1, HD.out, HRel.out.2.2.2.2.2, by omega, by omega⟩
    · obtain rfl : j = l.length := by omega
      have hts : ts.take l.length = ts := List.take_of_length_le (by rw [HI.out.1]; exact Nat.le_refl _)
      rw [hts] at hif his hno
      have HCV : Hid (cov (N + 1) ts = (decide (0 < (ts.flatMap kidL).length) && cov N (ts.flatMap kidL) && cov N (ts.flatMap kidR))) := by
        show _ = _
        have : ts.findIdx? isOne = none := List.findIdx?_eq_none_iff.2 fun t ht => by simpa using hno.out t ht
        simp only [cov, this]
      obtain ⟨s1, s2, s3⟩ := kids_less ts
      have hN := HNN.out
      have hlf' := hif.out.1
      have hls' := his.out.1
      by_cases h0 : 0 < lf.length
      · have hc1 := HIH.out (ts.flatMap kidL) Af cf lf wr (by omega) hgf.out.row (hif.out.up hB.out) (by omega) hgf.out.cap
        have HC2 : Hid (∀ W, Below wr.heap.size wr W → Calls Try.prog 48 #[.slice As ls.length cs] W fun e w' => e = .returned (.bool (cov N (ts.flatMap kidR))) ∧ Below W.heap.size W w') := fun W hW =>
          HIH.out (ts.flatMap kidR) As cs ls W (by omega) (hgs.out.row.up hW) (his.out.up (hB.out.trans (hW.mono hB.out.size))) (by omega) hgs.out.cap
        rw [← hlf', decide_eq_true h0, Bool.true_and] at HCV
        obtain ⟨q1, hq1⟩ : ∃ q, cov N (ts.flatMap kidL) = q := ⟨_, rfl⟩
        obtain ⟨q2, hq2⟩ : ∃ q, cov N (ts.flatMap kidR) = q := ⟨_, rfl⟩
        rw [hq1] at hc1 HCV
        rw [hq2] at HC2 HCV
        clear hif his hno hgf hgs hdis s1 s2 s3 hN hlf' hls' hq1 hq2 hts
        go_wp2_with fail
        refine hc1.mono ?_
        rintro e w2 ⟨rfl, hb2⟩
        have hcc := HC2.out w2 hb2
        have HB2 : Hid (Below w.heap.size w w2) := hB.out.trans (hb2.mono hB.out.size)
        clear hb2 hc1 HC2
        cases q1 with
        | false =>
          clear hcc
          go_wp2
          go_ret
          exact ⟨ret_bool (by rw [HCV.out]; rfl), HB2.out⟩
        | true =>
          go_wp2_with fail
          refine hcc.mono ?_
          rintro e w3 ⟨rfl, hb3⟩
          have HB3 : Hid (Below w.heap.size w w3) := HB2.out.trans (hb3.mono HB2.out.size)
          clear hb3 hcc
          go_wp2
          go_ret
          exact ⟨ret_bool (by rw [HCV.out, Bool.true_and]), HB3.out⟩
      · have h00 : lf.length = 0 := by omega
        rw [← hlf', decide_eq_false h0] at HCV
        clear hif his hno hgf hgs hdis s1 s2 s3 hN hlf' hls' hts
        go_wp2
        go_ret
        exact ⟨ret_bool (by rw [HCV.out]; rfl), hB.out⟩
end Go.Proofs.Ytkpefelakhbkhaa.I
