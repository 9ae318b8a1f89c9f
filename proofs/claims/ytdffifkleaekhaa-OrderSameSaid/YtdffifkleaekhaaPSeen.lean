/-
  rightSeen.
-/
import Derived.Test.YtdffifkleaekhaaPSmall
namespace Go.Proofs.Ytdffifkleaekhaa.O
open Go.RowKit Go.Proofs.Ytdffifkleaekhaa.V
set_option linter.unusedVariables false
set_option linter.unusedSimpArgs false

def befO (l : List D) (j : Nat) : Option D := match j with | 0 => none | k + 1 => l[k]?
theorem chkS_drop {deps l : List D} {j : Nat} {d : D} (hj : j < l.length) (hd : l[j]'hj = d) : chkS deps (befO l j) (l.drop j) = (prevB (befO l j) d && (decide (1 ≤ d.2) && decide (d.2 ≤ at' deps d.1)) && chkS deps (befO l (j + 1)) (l.drop (j + 1))) := by
  rw [List.drop_eq_getElem_cons hj, hd]
  show (prevB (befO l j) d && (decide (1 ≤ d.2) && decide (d.2 ≤ at' deps d.1)) && chkS deps (some d) (l.drop (j + 1))) = _
  have : befO l (j + 1) = some d := by show l[j]? = some d; rw [List.getElem?_eq_getElem hj, hd]
  rw [this]

theorem before_v (s : ByteArray) (n : Int) (t : ByteArray) (m : Int) {L : Bool} (hL : aheadB (s, n) (t, m) = L) (w : World) : Calls Try.prog 84 #[.agg #[.string s, .int .i64 n], .agg #[.string t, .int .i64 m]] w fun e w' => e = .returned (.bool L) ∧ Below w.heap.size w w' := by
  rw [← hL]; exact before_any (s, n) (t, m) w

set_option maxRecDepth 100000 in
set_option maxHeartbeats 12800000 in
theorem rightSeen_any (x : Ov) {w : World} (hx : x.ok w w.heap.size) : Calls Try.prog 53 #[x.v] w fun e w' => e = .returned (.bool (seenP x.o)) ∧ Below w.heap.size w w' := by
  have hb1 : Below w.heap.size w (w.alloc (.cells x.cells 26)) := (Below.refl _ w).alloc (Nat.le_refl _) _
  have hop : ∀ W, Below (w.alloc (.cells x.cells 26)).heap.size (w.alloc (.cells x.cells 26)) W → Op8.Cells W w.heap.size x := fun W hW => ((Op8.new w x).below hW (by simp)).at
  have hdd : ∀ W, Below (w.alloc (.cells x.cells 26)).heap.size (w.alloc (.cells x.cells 26)) W → x.ok W W.heap.size := fun W hW => (hx.up hb1).up hW
  obtain ⟨⟨⟨s, n⟩, dp, ct, kd, it, q, sn⟩, A, c, A2, c2⟩ := x
  have HF := Lib.hid hx.fit
  clear hx
  simp only [Ov.v, Ov.cells] at hop hb1 hdd ⊢
  obtain ⟨a1, ha1⟩ : ∃ L, dp.length = L := ⟨_, rfl⟩
  obtain ⟨a2, ha2⟩ : ∃ L, sn.length = L := ⟨_, rfl⟩
  have HL := Lib.hid (And.intro ha1 ha2)
  rw [ha1, ha2] at hop hb1 hdd ⊢
  obtain ⟨W1, hW1⟩ : ∃ W1, w.alloc (.cells #[.string s, .int .i64 n, .slice A a1 c, .string ct, .int .i64 kd, .string it, .int .i64 q, .slice A2 a2 c2] 26) = W1 := ⟨_, rfl⟩
  have HWE := Lib.hid hW1
  rw [hW1] at hop hb1 hdd
  have HC : Hid (∀ W, Below W1.heap.size W1 W → (W.cell? ⟨w.heap.size, 0, none⟩ = some (.string s) ∧ W.cell? ⟨w.heap.size, 1, none⟩ = some (.int .i64 n) ∧ W.cell? ⟨w.heap.size, 2, none⟩ = some (.slice A a1 c)) ∧ W.cell? ⟨w.heap.size, 3, none⟩ = some (.string ct) ∧ W.cell? ⟨w.heap.size, 4, none⟩ = some (.int .i64 kd) ∧ W.cell? ⟨w.heap.size, 5, none⟩ = some (.string it) ∧ W.cell? ⟨w.heap.size, 6, none⟩ = some (.int .i64 q) ∧ W.cell? ⟨w.heap.size, 7, none⟩ = some (.slice A2 a2 c2)) := fun W hW => by
    obtain ⟨c0, c1, c2_, c3, c4, c5, c6, c7⟩ := hop W hW
    simp only at c0 c1 c2_ c3 c4 c5 c6 c7
    rw [ha1] at c2_; rw [ha2] at c7
    exact ⟨⟨c0, c1, c2_⟩, c3, c4, c5, c6, c7⟩
  have HB1 : Hid (∀ W, Below W1.heap.size W1 W → Below w.heap.size w W) := fun W hW => hb1.trans (hW.mono hb1.size)
  have HDR : Hid (∀ W, Below W1.heap.size W1 W → Vc.ok ⟨A, c, dp⟩ W W.heap.size ∧ Vc.ok ⟨A2, c2, sn⟩ W W.heap.size) := fun W hW => ⟨(hdd W hW).d, (hdd W hW).s⟩
  have hRw : Below W1.heap.size W1 W1 := Below.refl _ _
  clear hop hb1 hdd hW1 ha1 ha2
  have hP : seenP ⟨(s, n), dp, ct, kd, it, q, sn⟩ = (if kd = 1 then decide (sn.length = 0) else decide (sn.length ≤ 128) && chkS dp none sn) := rfl
  obtain ⟨RF, hRF⟩ : ∃ X, seenP ⟨(s, n), dp, ct, kd, it, q, sn⟩ = X := ⟨_, rfl⟩
  rw [hRF] at hP ⊢
  rw [HL.out.2] at hP
  have HP := Lib.hid hP
  clear hP hRF
  have hr3 : ∀ t W, Below W1.heap.size W1 W → Calls Try.prog 71 #[.slice A a1 c, .string t] W fun e w' => e = .returned (.int .i64 (at' dp t)) ∧ Below W.heap.size W w' := fun t W hW => by
    have h1 := at_any c t (HDR.out _ hW).1.1 (HDR.out _ hW).1.2.2.2
    have h2 := HL.out.1
    simp only at h1
    rw [h2] at h1
    exact h1
  have HAT := Lib.hid hr3
  clear hr3
  have HS2 := Lib.hid (HDR.out _ hRw).2
  obtain ⟨⟨c0, c1, c2_⟩, c3, c4, c5, c6, c7⟩ := HC.out _ hRw
  have HRw := Lib.hid hRw
  clear hRw
  go_enter Try.func53, Try.ntmps53
  go_upto_region 1 with fail
  rw [HWE.out]
  by_cases k1 : kd = 1
  · subst k1
    have hf : Hid (RF = decide (a2 = 0)) := HP.out
    by_cases h0 : a2 = 0
    · subst h0
      go_wp2
      go_ret
      exact ⟨ret_bool (by rw [hf.out]; simp), HB1.out _ HRw.out⟩
    · have e0 : ((a2 : Int) == 0) = false := by rw [beq_eq_false_iff_ne]; omega
      go_wp2
      go_ret
      exact ⟨ret_bool (by rw [hf.out]; simp [h0]), HB1.out _ HRw.out⟩
  · have e1 : (kd == 1) = false := by simp [k1]
    have HP2 : Hid (RF = (decide (a2 ≤ 128) && chkS dp none sn)) := by show _ = _; rw [HP.out, if_neg k1]
    clear HP
    by_cases h128 : ¬ a2 ≤ 128
    · have hg : (128 : Int) < (a2 : Int) := by omega
      go_wp2
      go_ret
      exact ⟨ret_bool (by rw [HP2.out]; simp [h128]), HB1.out _ HRw.out⟩
    · replace h128 := Decidable.not_not.1 h128
      have hg : ¬ (128 : Int) < (a2 : Int) := by omega
      obtain ⟨G, hG⟩ : ∃ G, chkS dp none sn = G := ⟨_, rfl⟩
      have HF2 : Hid (RF = G) := by show _ = _; rw [HP2.out, hG]; simp [h128]
      have HG := Lib.hid hG
      clear HP2 hG
      go_wp2
      go_loopg [19] a2 (fun k i wr => ∃ (j : Nat), j ≤ a2 ∧ k = a2 - j ∧ i = .int .i64 j ∧ Hid (chkS dp (befO sn j) (sn.drop j) = G) ∧ Below W1.heap.size W1 wr)
      case atStart => exact ⟨0, by omega, by omega, rfl, HG.out, HRw.out⟩
      case round =>
        clear c0 c1 c2_ c3 c4 c5 c6 c7 hg e1
        obtain ⟨j, hj, hgk, rfl, hat, hbw⟩ := hrel
        have HGK := Lib.hid hgk; clear hgk
        by_cases hlt : j < a2
        · have hlt' : j < sn.length := by rw [HL.out.2]; exact hlt
          obtain ⟨bb, off, rfl, hbs, e0, e1⟩ := HS2.out.1.at j hlt'
          obtain ⟨⟨t, m⟩, hd⟩ : ∃ d, sn[j]'hlt' = d := ⟨_, rfl⟩
          rw [hd] at e0 e1
          simp only at e0 e1
          have hk := Lib.hid (chkS_drop (deps := dp) hlt' hd)
          have HE : Hid (∀ W, Below W1.heap.size W1 W → W.cell? ⟨bb, off + j * 2, none⟩ = some (.string t) ∧ W.cell? ⟨bb, off + j * 2 + 1, none⟩ = some (.int .i64 m)) := fun W hW => ⟨(hW.cell (p := ⟨bb, off + j * 2, none⟩) hbs).trans e0, (hW.cell (p := ⟨bb, off + j * 2 + 1, none⟩) hbs).trans e1⟩
          have HBs := Lib.hid hbs
          obtain ⟨g0, g1⟩ := HE.out _ hbw
          clear e0 e1 hbs
          obtain ⟨V, hV⟩ : ∃ V, at' dp t = V := ⟨_, rfl⟩
          have HV := Lib.hid hV
          have hk2 : Hid (G = (prevB (befO sn j) (t, m) && (decide (1 ≤ m) && decide (m ≤ V)) && chkS dp (befO sn (j + 1)) (sn.drop (j + 1)))) := by show _ = _; rw [← hat.out, hk.out, ← hV]
          clear hk hV hat
          obtain ⟨We, hWe⟩ : ∃ We, wr.alloc (.cells #[.string t, .int .i64 m] 23) = We := ⟨_, rfl⟩
          have HWe := Lib.hid hWe
          have hTw : Two We wr.heap.size (.string t) (.int .i64 m) := by rw [← hWe]; exact Two.new wr _ _
          have HBE : Hid (Below W1.heap.size W1 We) := by show Below _ _ _; rw [← hWe]; exact hbw.alloc hbw.size _
          have HT : Hid (∀ W, Below We.heap.size We W → W.cell? ⟨wr.heap.size, 0, none⟩ = some (.string t) ∧ W.cell? ⟨wr.heap.size, 1, none⟩ = some (.int .i64 m)) := fun W hW => ⟨(hTw.below hW hTw.lt).c0, (hTw.below hW hTw.lt).c1⟩
          have HBW : Hid (∀ W, Below We.heap.size We W → Below W1.heap.size W1 W) := fun W hW => HBE.out.trans (hW.mono HBE.out.size)
          have HS0 : Hid (Below We.heap.size We We.drew) := (Below.refl _ We).drew
          clear hTw hWe
          go_upto_region 8 with fail
          clear g0 g1 hbw
          have hwx := HWe.out
          try rw [hwx]
          clear hwx
          cases j with
          | zero =>
            have hpv : Hid (prevB (befO sn 0) (t, m) = true) := rfl
            refine wp_region_held_drew (S := fun Wv => Below We.heap.size We Wv) (by kernel_rfl) HS0.out (fun hS => ?_)
            generalize We.drew = Wd at *
            refine wpAnyH_take (i := 0) (v := ?_) rfl (by kernel_rfl) (by kernel_rfl) (by kernel_rfl) (fun _ _ _ h => h) (Yields.yieldsIf (Or.inl ⟨by kernel_rfl, ?_⟩)) hS ?_
            rotate_left
            · first | (intro w; go_simp; done) | (intro w; go_simp; with_reducible rfl)
            refine wpAnyH_take (i := 1) (v := ?_) rfl (by kernel_rfl) (by kernel_rfl) (by kernel_rfl) (fun _ _ _ h => h) (Yields.yieldsIf (Or.inl ⟨by kernel_rfl, ?_⟩)) hS ?_
            rotate_left
            · first | (intro w; go_simp; done) | (intro w; go_simp; with_reducible rfl)
            refine wpAnyH_take (i := 2) (v := ?_) rfl (by kernel_rfl) (by kernel_rfl) (by kernel_rfl) (fun _ _ _ h => h) (Yields.yieldsIf (Or.inl ⟨by kernel_rfl, ?_⟩)) hS ?_
            rotate_left
            · first | (intro w; go_simp; done) | (intro w; go_simp; with_reducible rfl)
            refine wpAnyH_take (i := 3) (v := undef) rfl (by kernel_rfl) (by kernel_rfl) (by kernel_rfl) (fun _ _ _ h => h) (Or.inr ⟨by kernel_rfl, rfl⟩) hS ?_
            refine wpAnyH_take (i := 4) (v := undef) rfl (by kernel_rfl) (by kernel_rfl) (by kernel_rfl) (fun _ _ _ h => h) (Or.inr ⟨by kernel_rfl, rfl⟩) hS ?_
            refine wpAnyH_take (i := 5) (v := undef) rfl (by kernel_rfl) (by kernel_rfl) (by kernel_rfl) (fun _ _ _ h => h) (Or.inr ⟨by kernel_rfl, rfl⟩) hS ?_
            refine wpAnyH_take (i := 6) (v := undef) rfl (by kernel_rfl) (by kernel_rfl) (by kernel_rfl) (fun _ _ _ h => h) (Or.inr ⟨by kernel_rfl, rfl⟩) hS ?_
            refine wpAnyH_take (i := 7) (v := undef) rfl (by kernel_rfl) (by kernel_rfl) (by kernel_rfl) (fun _ _ _ h => h) (Or.inr ⟨by kernel_rfl, rfl⟩) hS ?_
            refine wpAnyH_take (i := 8) (v := undef) rfl (by kernel_rfl) (by kernel_rfl) (by kernel_rfl) (fun _ _ _ h => h) (Or.inr ⟨by kernel_rfl, rfl⟩) hS ?_
            refine wpAnyH_take (i := 9) (v := undef) rfl (by kernel_rfl) (by kernel_rfl) (by kernel_rfl) (fun _ _ _ h => h) (Or.inr ⟨by kernel_rfl, rfl⟩) hS ?_
            refine wpAnyH_take (i := 10) (v := undef) rfl (by kernel_rfl) (by kernel_rfl) (by kernel_rfl) (fun _ _ _ h => h) (Or.inr ⟨by kernel_rfl, rfl⟩) hS ?_
            refine wpAnyH_take (i := 11) (v := undef) rfl (by kernel_rfl) (by kernel_rfl) (by kernel_rfl) (fun _ _ _ h => h) (Or.inr ⟨by kernel_rfl, rfl⟩) hS ?_
            go_simp
            refine wpAnyH_take (i := 12) (v := ?_) rfl (by kernel_rfl) (by kernel_rfl) (by kernel_rfl) (fun _ _ _ h => h) (Yields.yieldsIf (Or.inl ⟨by kernel_rfl, ?_⟩)) hS ?_
            rotate_left
            · first | (intro w; go_simp; done) | (intro w; go_simp; with_reducible rfl)
            go_simp
            refine wpAnyH_done (by kernel_rfl) ?_ _
            obtain ⟨Wg, hWg⟩ : ∃ Wg, Wd = Wg := ⟨_, rfl⟩
            subst hWg
            by_cases hm : m < 1
            · go_upto_region 10 with fail
              have HS1 : Hid (Below We.heap.size We Wd.drew) := HS0.out.drew
              refine wp_region_held_drew (S := fun Wv => Below We.heap.size We Wv) (by kernel_rfl) HS1.out (fun hS => ?_)
              generalize Wd.drew = Wf at *
              refine wpAnyH_take (i := 0) (v := ?_) rfl (by kernel_rfl) (by kernel_rfl) (by kernel_rfl) (fun _ _ _ h => h) (Yields.yieldsIf (Or.inl ⟨by kernel_rfl, ?_⟩)) hS ?_
              rotate_left
              · first | (intro w; go_simp; done) | (intro w; go_simp; with_reducible rfl)
              refine wpAnyH_take (i := 1) (v := ?_) rfl (by kernel_rfl) (by kernel_rfl) (by kernel_rfl) (fun _ _ _ h => h) (Or.inl ⟨by kernel_rfl, fun W hW => ?_⟩) hS ?_
              rotate_left
              · obtain ⟨⟨c0, c1, c2_⟩, c3, c4, c5, c6, c7⟩ := HC.out W (HBW.out W hW); obtain ⟨e0, e1⟩ := HE.out W (HBW.out W hW); obtain ⟨t0_, t1_⟩ := HT.out W hW
                first | (go_simp; done) | (go_simp; with_reducible rfl)
              refine wpAnyH_take (i := 2) (v := ?_) rfl (by kernel_rfl) (by kernel_rfl) (by kernel_rfl) (fun _ _ _ h => h) (Yields.yieldsIf (Or.inl ⟨by kernel_rfl, ?_⟩)) hS ?_
              rotate_left
              · first | (intro w; go_simp; done) | (intro w; go_simp; with_reducible rfl)
              refine wpAnyH_take (i := 3) (v := ?_) rfl (by kernel_rfl) (by kernel_rfl) (by kernel_rfl) (fun _ _ _ h => h) (Yields.yieldsIf (Or.inl ⟨by kernel_rfl, ?_⟩)) hS ?_
              rotate_left
              · first | (intro w; go_simp; done) | (intro w; go_simp; with_reducible rfl)
              refine wpAnyH_take (i := 4) (v := undef) rfl (by kernel_rfl) (by kernel_rfl) (by kernel_rfl) (fun _ _ _ h => h) (Or.inr ⟨by kernel_rfl, rfl⟩) hS ?_
              refine wpAnyH_take (i := 5) (v := undef) rfl (by kernel_rfl) (by kernel_rfl) (by kernel_rfl) (fun _ _ _ h => h) (Or.inr ⟨by kernel_rfl, rfl⟩) hS ?_
              refine wpAnyH_take (i := 6) (v := undef) rfl (by kernel_rfl) (by kernel_rfl) (by kernel_rfl) (fun _ _ _ h => h) (Or.inr ⟨by kernel_rfl, rfl⟩) hS ?_
              refine wpAnyH_take (i := 7) (v := undef) rfl (by kernel_rfl) (by kernel_rfl) (by kernel_rfl) (fun _ _ _ h => h) (Or.inr ⟨by kernel_rfl, rfl⟩) hS ?_
              refine wpAnyH_take (i := 8) (v := undef) rfl (by kernel_rfl) (by kernel_rfl) (by kernel_rfl) (fun _ _ _ h => h) (Or.inr ⟨by kernel_rfl, rfl⟩) hS ?_
              refine wpAnyH_take (i := 9) (v := undef) rfl (by kernel_rfl) (by kernel_rfl) (by kernel_rfl) (fun _ _ _ h => h) (Or.inr ⟨by kernel_rfl, rfl⟩) hS ?_
              refine wpAnyH_take (i := 10) (v := undef) rfl (by kernel_rfl) (by kernel_rfl) (by kernel_rfl) (fun _ _ _ h => h) (Or.inr ⟨by kernel_rfl, rfl⟩) hS ?_
              refine wpAnyH_take (i := 11) (v := undef) rfl (by kernel_rfl) (by kernel_rfl) (by kernel_rfl) (fun _ _ _ h => h) (Or.inr ⟨by kernel_rfl, rfl⟩) hS ?_
              go_simp
              refine wpAnyH_take (i := 12) (v := ?_) rfl (by kernel_rfl) (by kernel_rfl) (by kernel_rfl) (fun _ _ _ h => h) (Yields.yieldsIf (Or.inl ⟨by kernel_rfl, ?_⟩)) hS ?_
              rotate_left
              · first | (intro w; go_simp; done) | (intro w; go_simp; with_reducible rfl)
              go_simp
              refine wpAnyH_done (by kernel_rfl) ?_ _
              go_wp2
              go_ret
              exact ⟨ret_bool (by rw [HF2.out, hk2.out]; rw [hpv.out]; simp; intros; omega), HB1.out _ (HBW.out _ HS1.out)⟩
            · by_cases hmv : V < m
              · go_upto_region 10 with fail
                have HS1 : Hid (Below We.heap.size We Wd.drew) := HS0.out.drew
                refine wp_region_held_drew (S := fun Wv => Below We.heap.size We Wv) (by kernel_rfl) HS1.out (fun hS => ?_)
                generalize Wd.drew = Wf at *
                refine wpAnyH_take (i := 0) (v := ?_) rfl (by kernel_rfl) (by kernel_rfl) (by kernel_rfl) (fun _ _ _ h => h) (Yields.yieldsIf (Or.inl ⟨by kernel_rfl, ?_⟩)) hS ?_
                rotate_left
                · first | (intro w; go_simp; done) | (intro w; go_simp; with_reducible rfl)
                refine wpAnyH_take (i := 1) (v := ?_) rfl (by kernel_rfl) (by kernel_rfl) (by kernel_rfl) (fun _ _ _ h => h) (Or.inl ⟨by kernel_rfl, fun W hW => ?_⟩) hS ?_
                rotate_left
                · obtain ⟨⟨c0, c1, c2_⟩, c3, c4, c5, c6, c7⟩ := HC.out W (HBW.out W hW); obtain ⟨e0, e1⟩ := HE.out W (HBW.out W hW); obtain ⟨t0_, t1_⟩ := HT.out W hW
                  first | (go_simp; done) | (go_simp; with_reducible rfl)
                refine wpAnyH_take (i := 2) (v := ?_) rfl (by kernel_rfl) (by kernel_rfl) (by kernel_rfl) (fun _ _ _ h => h) (Yields.yieldsIf (Or.inl ⟨by kernel_rfl, ?_⟩)) hS ?_
                rotate_left
                · first | (intro w; go_simp; done) | (intro w; go_simp; with_reducible rfl)
                refine wpAnyH_take (i := 3) (v := ?_) rfl (by kernel_rfl) (by kernel_rfl) (by kernel_rfl) (fun _ _ _ h => h) (Yields.yieldsIf (Or.inl ⟨by kernel_rfl, ?_⟩)) hS ?_
                rotate_left
                · first | (intro w; go_simp; done) | (intro w; go_simp; with_reducible rfl)
                refine wpAnyH_take (i := 4) (v := ?_) rfl (by kernel_rfl) (by kernel_rfl) (by kernel_rfl) (fun _ _ _ h => h) (Yields.yieldsIf (Or.inl ⟨by kernel_rfl, ?_⟩)) hS ?_
                rotate_left
                · first | (intro w; go_simp; done) | (intro w; go_simp; with_reducible rfl)
                refine wpAnyH_take (i := 5) (v := ?_) rfl (by kernel_rfl) (by kernel_rfl) (by kernel_rfl) (fun _ _ _ h => h) (Or.inl ⟨by kernel_rfl, fun W hW => ?_⟩) hS ?_
                rotate_left
                · obtain ⟨⟨c0, c1, c2_⟩, c3, c4, c5, c6, c7⟩ := HC.out W (HBW.out W hW); obtain ⟨e0, e1⟩ := HE.out W (HBW.out W hW); obtain ⟨t0_, t1_⟩ := HT.out W hW
                  first | (go_simp; done) | (go_simp; with_reducible rfl)
                refine wpAnyH_take (i := 6) (v := ?_) rfl (by kernel_rfl) (by kernel_rfl) (by kernel_rfl) (fun _ _ _ h => h) (Yields.yieldsIf (Or.inl ⟨by kernel_rfl, ?_⟩)) hS ?_
                rotate_left
                · first | (intro w; go_simp; done) | (intro w; go_simp; with_reducible rfl)
                refine wpAnyH_take (i := 7) (v := ?_) rfl (by kernel_rfl) (by kernel_rfl) (by kernel_rfl) (fun _ _ _ h => h) (Or.inl ⟨by kernel_rfl, fun W hW => ?_⟩) hS ?_
                rotate_left
                · obtain ⟨⟨c0, c1, c2_⟩, c3, c4, c5, c6, c7⟩ := HC.out W (HBW.out W hW); obtain ⟨e0, e1⟩ := HE.out W (HBW.out W hW); obtain ⟨t0_, t1_⟩ := HT.out W hW
                  first | (go_simp; done) | (go_simp; with_reducible rfl)
                refine wpAnyH_take (i := 8) (v := ?_) rfl (by kernel_rfl) (by kernel_rfl) (by kernel_rfl) (fun _ _ _ h => h) (Yields.yieldsIf (Or.inl ⟨by kernel_rfl, ?_⟩)) hS ?_
                rotate_left
                · first | (intro w; go_simp; done) | (intro w; go_simp; with_reducible rfl)
                refine wpAnyH_take (i := 9) (v := ?_) rfl (by kernel_rfl) (by kernel_rfl) (by kernel_rfl) (fun _ _ _ h => h) (Or.inl ⟨by kernel_rfl, fun W hW => ?_⟩) hS ?_
                rotate_left
                · obtain ⟨⟨c0, c1, c2_⟩, c3, c4, c5, c6, c7⟩ := HC.out W (HBW.out W hW); obtain ⟨e0, e1⟩ := HE.out W (HBW.out W hW); obtain ⟨t0_, t1_⟩ := HT.out W hW
                  first | (go_simp; done) | (go_simp; with_reducible rfl)
                refine wpAnyH_ready (rs := [10]) (by kernel_rfl) (by simp) ?_
                refine AllReadyH.cons rfl (fun K hK => ?_) AllReadyH.nil
                go_simp
                go_wp2_with (go_at_call 71; refine (HAT.out t _ (HBW.out _ HS1.out)).mono ?_; rintro e wa4 ⟨rfl, hba⟩)
                rw [HV.out]
                have HA4 := Lib.hid (HS1.out.trans (hba.mono HS1.out.size))
                clear hba
                have hS3 : Below We.heap.size We wa4 := HA4.out
                refine hK.out _ _ hS3 (fun hS => ?_)
                clear hK K hS3
                refine wpAnyH_take (i := 11) (v := ?_) rfl (by kernel_rfl) (by kernel_rfl) (by kernel_rfl) (fun _ _ _ h => h) (Yields.yieldsIf (Or.inl ⟨by kernel_rfl, ?_⟩)) hS ?_
                rotate_left
                · first | (intro w; go_simp; done) | (intro w; go_simp; with_reducible rfl)
                refine wpAnyH_take (i := 12) (v := ?_) rfl (by kernel_rfl) (by kernel_rfl) (by kernel_rfl) (fun _ _ _ h => h) (Yields.yieldsIf (Or.inl ⟨by kernel_rfl, ?_⟩)) hS ?_
                rotate_left
                · first | (intro w; go_simp; done) | (intro w; go_simp; with_reducible rfl)
                refine wpAnyH_done (by kernel_rfl) ?_ _
                go_wp2
                go_ret
                exact ⟨ret_bool (by rw [HF2.out, hk2.out]; rw [hpv.out]; simp; intros; omega), HB1.out _ (HBW.out _ HA4.out)⟩
              · have hnx : Hid (chkS dp (befO sn (0 + 1)) (sn.drop (0 + 1)) = G) := by
                  have h1 : 1 ≤ m := by omega
                  have h2 : m ≤ V := by omega
                  show _ = _; rw [hk2.out, hpv.out]; simp [h1, h2]
                go_upto_region 10 with fail
                have HS1 : Hid (Below We.heap.size We Wd.drew) := HS0.out.drew
                refine wp_region_held_drew (S := fun Wv => Below We.heap.size We Wv) (by kernel_rfl) HS1.out (fun hS => ?_)
                generalize Wd.drew = Wf at *
                refine wpAnyH_take (i := 0) (v := ?_) rfl (by kernel_rfl) (by kernel_rfl) (by kernel_rfl) (fun _ _ _ h => h) (Yields.yieldsIf (Or.inl ⟨by kernel_rfl, ?_⟩)) hS ?_
                rotate_left
                · first | (intro w; go_simp; done) | (intro w; go_simp; with_reducible rfl)
                refine wpAnyH_take (i := 1) (v := ?_) rfl (by kernel_rfl) (by kernel_rfl) (by kernel_rfl) (fun _ _ _ h => h) (Or.inl ⟨by kernel_rfl, fun W hW => ?_⟩) hS ?_
                rotate_left
                · obtain ⟨⟨c0, c1, c2_⟩, c3, c4, c5, c6, c7⟩ := HC.out W (HBW.out W hW); obtain ⟨e0, e1⟩ := HE.out W (HBW.out W hW); obtain ⟨t0_, t1_⟩ := HT.out W hW
                  first | (go_simp; done) | (go_simp; with_reducible rfl)
                refine wpAnyH_take (i := 2) (v := ?_) rfl (by kernel_rfl) (by kernel_rfl) (by kernel_rfl) (fun _ _ _ h => h) (Yields.yieldsIf (Or.inl ⟨by kernel_rfl, ?_⟩)) hS ?_
                rotate_left
                · first | (intro w; go_simp; done) | (intro w; go_simp; with_reducible rfl)
                refine wpAnyH_take (i := 3) (v := ?_) rfl (by kernel_rfl) (by kernel_rfl) (by kernel_rfl) (fun _ _ _ h => h) (Yields.yieldsIf (Or.inl ⟨by kernel_rfl, ?_⟩)) hS ?_
                rotate_left
                · first | (intro w; go_simp; done) | (intro w; go_simp; with_reducible rfl)
                refine wpAnyH_take (i := 4) (v := ?_) rfl (by kernel_rfl) (by kernel_rfl) (by kernel_rfl) (fun _ _ _ h => h) (Yields.yieldsIf (Or.inl ⟨by kernel_rfl, ?_⟩)) hS ?_
                rotate_left
                · first | (intro w; go_simp; done) | (intro w; go_simp; with_reducible rfl)
                refine wpAnyH_take (i := 5) (v := ?_) rfl (by kernel_rfl) (by kernel_rfl) (by kernel_rfl) (fun _ _ _ h => h) (Or.inl ⟨by kernel_rfl, fun W hW => ?_⟩) hS ?_
                rotate_left
                · obtain ⟨⟨c0, c1, c2_⟩, c3, c4, c5, c6, c7⟩ := HC.out W (HBW.out W hW); obtain ⟨e0, e1⟩ := HE.out W (HBW.out W hW); obtain ⟨t0_, t1_⟩ := HT.out W hW
                  first | (go_simp; done) | (go_simp; with_reducible rfl)
                refine wpAnyH_take (i := 6) (v := ?_) rfl (by kernel_rfl) (by kernel_rfl) (by kernel_rfl) (fun _ _ _ h => h) (Yields.yieldsIf (Or.inl ⟨by kernel_rfl, ?_⟩)) hS ?_
                rotate_left
                · first | (intro w; go_simp; done) | (intro w; go_simp; with_reducible rfl)
                refine wpAnyH_take (i := 7) (v := ?_) rfl (by kernel_rfl) (by kernel_rfl) (by kernel_rfl) (fun _ _ _ h => h) (Or.inl ⟨by kernel_rfl, fun W hW => ?_⟩) hS ?_
                rotate_left
                · obtain ⟨⟨c0, c1, c2_⟩, c3, c4, c5, c6, c7⟩ := HC.out W (HBW.out W hW); obtain ⟨e0, e1⟩ := HE.out W (HBW.out W hW); obtain ⟨t0_, t1_⟩ := HT.out W hW
                  first | (go_simp; done) | (go_simp; with_reducible rfl)
                refine wpAnyH_take (i := 8) (v := ?_) rfl (by kernel_rfl) (by kernel_rfl) (by kernel_rfl) (fun _ _ _ h => h) (Yields.yieldsIf (Or.inl ⟨by kernel_rfl, ?_⟩)) hS ?_
                rotate_left
                · first | (intro w; go_simp; done) | (intro w; go_simp; with_reducible rfl)
                refine wpAnyH_take (i := 9) (v := ?_) rfl (by kernel_rfl) (by kernel_rfl) (by kernel_rfl) (fun _ _ _ h => h) (Or.inl ⟨by kernel_rfl, fun W hW => ?_⟩) hS ?_
                rotate_left
                · obtain ⟨⟨c0, c1, c2_⟩, c3, c4, c5, c6, c7⟩ := HC.out W (HBW.out W hW); obtain ⟨e0, e1⟩ := HE.out W (HBW.out W hW); obtain ⟨t0_, t1_⟩ := HT.out W hW
                  first | (go_simp; done) | (go_simp; with_reducible rfl)
                refine wpAnyH_ready (rs := [10]) (by kernel_rfl) (by simp) ?_
                refine AllReadyH.cons rfl (fun K hK => ?_) AllReadyH.nil
                go_simp
                go_wp2_with (go_at_call 71; refine (HAT.out t _ (HBW.out _ HS1.out)).mono ?_; rintro e wa4 ⟨rfl, hba⟩)
                rw [HV.out]
                have HA4 := Lib.hid (HS1.out.trans (hba.mono HS1.out.size))
                clear hba
                have hS3 : Below We.heap.size We wa4 := HA4.out
                refine hK.out _ _ hS3 (fun hS => ?_)
                clear hK K hS3
                refine wpAnyH_take (i := 11) (v := ?_) rfl (by kernel_rfl) (by kernel_rfl) (by kernel_rfl) (fun _ _ _ h => h) (Yields.yieldsIf (Or.inl ⟨by kernel_rfl, ?_⟩)) hS ?_
                rotate_left
                · first | (intro w; go_simp; done) | (intro w; go_simp; with_reducible rfl)
                refine wpAnyH_take (i := 12) (v := ?_) rfl (by kernel_rfl) (by kernel_rfl) (by kernel_rfl) (fun _ _ _ h => h) (Yields.yieldsIf (Or.inl ⟨by kernel_rfl, ?_⟩)) hS ?_
                rotate_left
                · first | (intro w; go_simp; done) | (intro w; go_simp; with_reducible rfl)
                refine wpAnyH_done (by kernel_rfl) ?_ _
                go_wp2
                go_roundg (a2 - (0 + 1))
                case rel => exact ⟨0 + 1, by omega, rfl, by go_num, hnx, HBW.out _ HA4.out⟩
                case measure => have := HGK.out; omega
          | succ p =>
            have hp' : p < sn.length := by omega
            obtain ⟨b', off', e', hbs', p0, p1⟩ := HS2.out.1.at p hp'
            injection e' with e'
            injection e' with e1 e2
            subst e1; subst e2
            obtain ⟨⟨t0, m0⟩, hd0⟩ : ∃ d, sn[p]'hp' = d := ⟨_, rfl⟩
            rw [hd0] at p0 p1
            simp only at p0 p1
            have HE0 : Hid (∀ W, Below W1.heap.size W1 W → W.cell? ⟨bb, off + p * 2, none⟩ = some (.string t0) ∧ W.cell? ⟨bb, off + p * 2 + 1, none⟩ = some (.int .i64 m0)) := fun W hW => ⟨(hW.cell (p := ⟨bb, off + p * 2, none⟩) HBs.out).trans p0, (hW.cell (p := ⟨bb, off + p * 2 + 1, none⟩) HBs.out).trans p1⟩
            have hbf : befO sn (p + 1) = some (t0, m0) := by show sn[p]? = _; rw [List.getElem?_eq_getElem hp', hd0]
            obtain ⟨Lt, hLt⟩ : ∃ Lt, aheadB (t0, m0) (t, m) = Lt := ⟨_, rfl⟩
            have HLt := Lib.hid hLt
            have hpv : Hid (prevB (befO sn (p + 1)) (t, m) = Lt) := by show _ = _; rw [hbf, ← hLt]; rfl
            have hcp : ((p + 1 : Nat) : Int) = (p : Int) + 1 := by omega
            clear p0 p1 hbs' hLt hbf
            rw [hcp] at *
            have g5 : IntKind.wrap .i64 (p : Int) = (p : Int) := by rw [IntKind.wrap_i64]; omega
            have g6 : (0 : Int) ≤ (p : Int) := by omega
            have g7 : (p : Int) < (a2 : Int) := by omega
            have g8 : (p : Int).toNat = p := by omega
            cases Lt with
            | false =>
              refine wp_region_held_drew (S := fun Wv => Below We.heap.size We Wv) (by kernel_rfl) HS0.out (fun hS => ?_)
              generalize We.drew = Wd at *
              refine wpAnyH_take (i := 0) (v := ?_) rfl (by kernel_rfl) (by kernel_rfl) (by kernel_rfl) (fun _ _ _ h => h) (Yields.yieldsIf (Or.inl ⟨by kernel_rfl, ?_⟩)) hS ?_
              rotate_left
              · first | (intro w; go_simp; done) | (intro w; go_simp; with_reducible rfl)
              refine wpAnyH_take (i := 1) (v := ?_) rfl (by kernel_rfl) (by kernel_rfl) (by kernel_rfl) (fun _ _ _ h => h) (Yields.yieldsIf (Or.inl ⟨by kernel_rfl, ?_⟩)) hS ?_
              rotate_left
              · first | (intro w; go_simp; done) | (intro w; go_simp; with_reducible rfl)
              refine wpAnyH_take (i := 2) (v := ?_) rfl (by kernel_rfl) (by kernel_rfl) (by kernel_rfl) (fun _ _ _ h => h) (Yields.yieldsIf (Or.inl ⟨by kernel_rfl, ?_⟩)) hS ?_
              rotate_left
              · first | (intro w; go_simp; done) | (intro w; go_simp; with_reducible rfl)
              refine wpAnyH_take (i := 3) (v := ?_) rfl (by kernel_rfl) (by kernel_rfl) (by kernel_rfl) (fun _ _ _ h => h) (Yields.yieldsIf (Or.inl ⟨by kernel_rfl, ?_⟩)) hS ?_
              rotate_left
              · first | (intro w; go_simp; done) | (intro w; go_simp; with_reducible rfl)
              refine wpAnyH_take (i := 4) (v := ?_) rfl (by kernel_rfl) (by kernel_rfl) (by kernel_rfl) (fun _ _ _ h => h) (Or.inl ⟨by kernel_rfl, fun W hW => ?_⟩) hS ?_
              rotate_left
              · obtain ⟨⟨c0, c1, c2_⟩, c3, c4, c5, c6, c7⟩ := HC.out W (HBW.out W hW); obtain ⟨e0, e1⟩ := HE.out W (HBW.out W hW); obtain ⟨t0_, t1_⟩ := HT.out W hW; obtain ⟨f0, f1⟩ := HE0.out W (HBW.out W hW)
                first | (go_simp; done) | (go_simp; with_reducible rfl)
              refine wpAnyH_take (i := 5) (v := ?_) rfl (by kernel_rfl) (by kernel_rfl) (by kernel_rfl) (fun _ _ _ h => h) (Yields.yieldsIf (Or.inl ⟨by kernel_rfl, ?_⟩)) hS ?_
              rotate_left
              · first | (intro w; go_simp; done) | (intro w; go_simp; with_reducible rfl)
              refine wpAnyH_take (i := 6) (v := ?_) rfl (by kernel_rfl) (by kernel_rfl) (by kernel_rfl) (fun _ _ _ h => h) (Yields.yieldsIf (Or.inl ⟨by kernel_rfl, ?_⟩)) hS ?_
              rotate_left
              · first | (intro w; go_simp; done) | (intro w; go_simp; with_reducible rfl)
              refine wpAnyH_take (i := 7) (v := ?_) rfl (by kernel_rfl) (by kernel_rfl) (by kernel_rfl) (fun _ _ _ h => h) (Yields.yieldsIf (Or.inl ⟨by kernel_rfl, ?_⟩)) hS ?_
              rotate_left
              · first | (intro w; go_simp; done) | (intro w; go_simp; with_reducible rfl)
              refine wpAnyH_take (i := 8) (v := ?_) rfl (by kernel_rfl) (by kernel_rfl) (by kernel_rfl) (fun _ _ _ h => h) (Or.inl ⟨by kernel_rfl, fun W hW => ?_⟩) hS ?_
              rotate_left
              · obtain ⟨⟨c0, c1, c2_⟩, c3, c4, c5, c6, c7⟩ := HC.out W (HBW.out W hW); obtain ⟨e0, e1⟩ := HE.out W (HBW.out W hW); obtain ⟨t0_, t1_⟩ := HT.out W hW; obtain ⟨f0, f1⟩ := HE0.out W (HBW.out W hW)
                first | (go_simp; done) | (go_simp; with_reducible rfl)
              refine wpAnyH_take (i := 9) (v := ?_) rfl (by kernel_rfl) (by kernel_rfl) (by kernel_rfl) (fun _ _ _ h => h) (Or.inl ⟨by kernel_rfl, fun W hW => ?_⟩) hS ?_
              rotate_left
              · obtain ⟨⟨c0, c1, c2_⟩, c3, c4, c5, c6, c7⟩ := HC.out W (HBW.out W hW); obtain ⟨e0, e1⟩ := HE.out W (HBW.out W hW); obtain ⟨t0_, t1_⟩ := HT.out W hW; obtain ⟨f0, f1⟩ := HE0.out W (HBW.out W hW)
                first | (go_simp; done) | (go_simp; with_reducible rfl)
              refine wpAnyH_ready (rs := [10]) (by kernel_rfl) (by simp) ?_
              refine AllReadyH.cons rfl (fun K hK => ?_) AllReadyH.nil
              go_simp
              go_wp2_with (go_at_call 84; refine (before_v t0 m0 t m HLt.out _).mono ?_; rintro e wa3 ⟨rfl, hba⟩)
              have HA3 := Lib.hid (HS0.out.trans (hba.mono HS0.out.size))
              clear hba
              have hS3 : Below We.heap.size We wa3 := HA3.out
              refine hK.out _ _ hS3 (fun hS => ?_)
              clear hK K hS3
              refine wpAnyH_take (i := 11) (v := ?_) rfl (by kernel_rfl) (by kernel_rfl) (by kernel_rfl) (fun _ _ _ h => h) (Yields.yieldsIf (Or.inl ⟨by kernel_rfl, ?_⟩)) hS ?_
              rotate_left
              · first | (intro w; go_simp; done) | (intro w; go_simp; with_reducible rfl)
              refine wpAnyH_take (i := 12) (v := ?_) rfl (by kernel_rfl) (by kernel_rfl) (by kernel_rfl) (fun _ _ _ h => h) (Yields.yieldsIf (Or.inl ⟨by kernel_rfl, ?_⟩)) hS ?_
              rotate_left
              · first | (intro w; go_simp; done) | (intro w; go_simp; with_reducible rfl)
              refine wpAnyH_done (by kernel_rfl) ?_ _
              go_wp2
              go_ret
              exact ⟨ret_bool (by rw [HF2.out, hk2.out]; rw [hpv.out]; rfl), HB1.out _ (HBW.out _ HA3.out)⟩
            | true =>
              refine wp_region_held_drew (S := fun Wv => Below We.heap.size We Wv) (by kernel_rfl) HS0.out (fun hS => ?_)
              generalize We.drew = Wd at *
              refine wpAnyH_take (i := 0) (v := ?_) rfl (by kernel_rfl) (by kernel_rfl) (by kernel_rfl) (fun _ _ _ h => h) (Yields.yieldsIf (Or.inl ⟨by kernel_rfl, ?_⟩)) hS ?_
              rotate_left
              · first | (intro w; go_simp; done) | (intro w; go_simp; with_reducible rfl)
              refine wpAnyH_take (i := 1) (v := ?_) rfl (by kernel_rfl) (by kernel_rfl) (by kernel_rfl) (fun _ _ _ h => h) (Yields.yieldsIf (Or.inl ⟨by kernel_rfl, ?_⟩)) hS ?_
              rotate_left
              · first | (intro w; go_simp; done) | (intro w; go_simp; with_reducible rfl)
              refine wpAnyH_take (i := 2) (v := ?_) rfl (by kernel_rfl) (by kernel_rfl) (by kernel_rfl) (fun _ _ _ h => h) (Yields.yieldsIf (Or.inl ⟨by kernel_rfl, ?_⟩)) hS ?_
              rotate_left
              · first | (intro w; go_simp; done) | (intro w; go_simp; with_reducible rfl)
              refine wpAnyH_take (i := 3) (v := ?_) rfl (by kernel_rfl) (by kernel_rfl) (by kernel_rfl) (fun _ _ _ h => h) (Yields.yieldsIf (Or.inl ⟨by kernel_rfl, ?_⟩)) hS ?_
              rotate_left
              · first | (intro w; go_simp; done) | (intro w; go_simp; with_reducible rfl)
              refine wpAnyH_take (i := 4) (v := ?_) rfl (by kernel_rfl) (by kernel_rfl) (by kernel_rfl) (fun _ _ _ h => h) (Or.inl ⟨by kernel_rfl, fun W hW => ?_⟩) hS ?_
              rotate_left
              · obtain ⟨⟨c0, c1, c2_⟩, c3, c4, c5, c6, c7⟩ := HC.out W (HBW.out W hW); obtain ⟨e0, e1⟩ := HE.out W (HBW.out W hW); obtain ⟨t0_, t1_⟩ := HT.out W hW; obtain ⟨f0, f1⟩ := HE0.out W (HBW.out W hW)
                first | (go_simp; done) | (go_simp; with_reducible rfl)
              refine wpAnyH_take (i := 5) (v := ?_) rfl (by kernel_rfl) (by kernel_rfl) (by kernel_rfl) (fun _ _ _ h => h) (Yields.yieldsIf (Or.inl ⟨by kernel_rfl, ?_⟩)) hS ?_
              rotate_left
              · first | (intro w; go_simp; done) | (intro w; go_simp; with_reducible rfl)
              refine wpAnyH_take (i := 6) (v := ?_) rfl (by kernel_rfl) (by kernel_rfl) (by kernel_rfl) (fun _ _ _ h => h) (Yields.yieldsIf (Or.inl ⟨by kernel_rfl, ?_⟩)) hS ?_
              rotate_left
              · first | (intro w; go_simp; done) | (intro w; go_simp; with_reducible rfl)
              refine wpAnyH_take (i := 7) (v := ?_) rfl (by kernel_rfl) (by kernel_rfl) (by kernel_rfl) (fun _ _ _ h => h) (Yields.yieldsIf (Or.inl ⟨by kernel_rfl, ?_⟩)) hS ?_
              rotate_left
              · first | (intro w; go_simp; done) | (intro w; go_simp; with_reducible rfl)
              refine wpAnyH_take (i := 8) (v := ?_) rfl (by kernel_rfl) (by kernel_rfl) (by kernel_rfl) (fun _ _ _ h => h) (Or.inl ⟨by kernel_rfl, fun W hW => ?_⟩) hS ?_
              rotate_left
              · obtain ⟨⟨c0, c1, c2_⟩, c3, c4, c5, c6, c7⟩ := HC.out W (HBW.out W hW); obtain ⟨e0, e1⟩ := HE.out W (HBW.out W hW); obtain ⟨t0_, t1_⟩ := HT.out W hW; obtain ⟨f0, f1⟩ := HE0.out W (HBW.out W hW)
                first | (go_simp; done) | (go_simp; with_reducible rfl)
              refine wpAnyH_take (i := 9) (v := ?_) rfl (by kernel_rfl) (by kernel_rfl) (by kernel_rfl) (fun _ _ _ h => h) (Or.inl ⟨by kernel_rfl, fun W hW => ?_⟩) hS ?_
              rotate_left
              · obtain ⟨⟨c0, c1, c2_⟩, c3, c4, c5, c6, c7⟩ := HC.out W (HBW.out W hW); obtain ⟨e0, e1⟩ := HE.out W (HBW.out W hW); obtain ⟨t0_, t1_⟩ := HT.out W hW; obtain ⟨f0, f1⟩ := HE0.out W (HBW.out W hW)
                first | (go_simp; done) | (go_simp; with_reducible rfl)
              refine wpAnyH_ready (rs := [10]) (by kernel_rfl) (by simp) ?_
              refine AllReadyH.cons rfl (fun K hK => ?_) AllReadyH.nil
              go_simp
              go_wp2_with (go_at_call 84; refine (before_v t0 m0 t m HLt.out _).mono ?_; rintro e wa3 ⟨rfl, hba⟩)
              have HA3 := Lib.hid (HS0.out.trans (hba.mono HS0.out.size))
              clear hba
              have hS3 : Below We.heap.size We wa3 := HA3.out
              refine hK.out _ _ hS3 (fun hS => ?_)
              clear hK K hS3
              refine wpAnyH_take (i := 11) (v := ?_) rfl (by kernel_rfl) (by kernel_rfl) (by kernel_rfl) (fun _ _ _ h => h) (Yields.yieldsIf (Or.inl ⟨by kernel_rfl, ?_⟩)) hS ?_
              rotate_left
              · first | (intro w; go_simp; done) | (intro w; go_simp; with_reducible rfl)
              refine wpAnyH_take (i := 12) (v := ?_) rfl (by kernel_rfl) (by kernel_rfl) (by kernel_rfl) (fun _ _ _ h => h) (Yields.yieldsIf (Or.inl ⟨by kernel_rfl, ?_⟩)) hS ?_
              rotate_left
              · first | (intro w; go_simp; done) | (intro w; go_simp; with_reducible rfl)
              refine wpAnyH_done (by kernel_rfl) ?_ _
              by_cases hm : m < 1
              · go_upto_region 10 with fail
                have HS1 : Hid (Below We.heap.size We wa3.drew) := HA3.out.drew
                refine wp_region_held_drew (S := fun Wv => Below We.heap.size We Wv) (by kernel_rfl) HS1.out (fun hS => ?_)
                generalize wa3.drew = Wf at *
                refine wpAnyH_take (i := 0) (v := ?_) rfl (by kernel_rfl) (by kernel_rfl) (by kernel_rfl) (fun _ _ _ h => h) (Yields.yieldsIf (Or.inl ⟨by kernel_rfl, ?_⟩)) hS ?_
                rotate_left
                · first | (intro w; go_simp; done) | (intro w; go_simp; with_reducible rfl)
                refine wpAnyH_take (i := 1) (v := ?_) rfl (by kernel_rfl) (by kernel_rfl) (by kernel_rfl) (fun _ _ _ h => h) (Or.inl ⟨by kernel_rfl, fun W hW => ?_⟩) hS ?_
                rotate_left
                · obtain ⟨⟨c0, c1, c2_⟩, c3, c4, c5, c6, c7⟩ := HC.out W (HBW.out W hW); obtain ⟨e0, e1⟩ := HE.out W (HBW.out W hW); obtain ⟨t0_, t1_⟩ := HT.out W hW
                  first | (go_simp; done) | (go_simp; with_reducible rfl)
                refine wpAnyH_take (i := 2) (v := ?_) rfl (by kernel_rfl) (by kernel_rfl) (by kernel_rfl) (fun _ _ _ h => h) (Yields.yieldsIf (Or.inl ⟨by kernel_rfl, ?_⟩)) hS ?_
                rotate_left
                · first | (intro w; go_simp; done) | (intro w; go_simp; with_reducible rfl)
                refine wpAnyH_take (i := 3) (v := ?_) rfl (by kernel_rfl) (by kernel_rfl) (by kernel_rfl) (fun _ _ _ h => h) (Yields.yieldsIf (Or.inl ⟨by kernel_rfl, ?_⟩)) hS ?_
                rotate_left
                · first | (intro w; go_simp; done) | (intro w; go_simp; with_reducible rfl)
                refine wpAnyH_take (i := 4) (v := undef) rfl (by kernel_rfl) (by kernel_rfl) (by kernel_rfl) (fun _ _ _ h => h) (Or.inr ⟨by kernel_rfl, rfl⟩) hS ?_
                refine wpAnyH_take (i := 5) (v := undef) rfl (by kernel_rfl) (by kernel_rfl) (by kernel_rfl) (fun _ _ _ h => h) (Or.inr ⟨by kernel_rfl, rfl⟩) hS ?_
                refine wpAnyH_take (i := 6) (v := undef) rfl (by kernel_rfl) (by kernel_rfl) (by kernel_rfl) (fun _ _ _ h => h) (Or.inr ⟨by kernel_rfl, rfl⟩) hS ?_
                refine wpAnyH_take (i := 7) (v := undef) rfl (by kernel_rfl) (by kernel_rfl) (by kernel_rfl) (fun _ _ _ h => h) (Or.inr ⟨by kernel_rfl, rfl⟩) hS ?_
                refine wpAnyH_take (i := 8) (v := undef) rfl (by kernel_rfl) (by kernel_rfl) (by kernel_rfl) (fun _ _ _ h => h) (Or.inr ⟨by kernel_rfl, rfl⟩) hS ?_
                refine wpAnyH_take (i := 9) (v := undef) rfl (by kernel_rfl) (by kernel_rfl) (by kernel_rfl) (fun _ _ _ h => h) (Or.inr ⟨by kernel_rfl, rfl⟩) hS ?_
                refine wpAnyH_take (i := 10) (v := undef) rfl (by kernel_rfl) (by kernel_rfl) (by kernel_rfl) (fun _ _ _ h => h) (Or.inr ⟨by kernel_rfl, rfl⟩) hS ?_
                refine wpAnyH_take (i := 11) (v := undef) rfl (by kernel_rfl) (by kernel_rfl) (by kernel_rfl) (fun _ _ _ h => h) (Or.inr ⟨by kernel_rfl, rfl⟩) hS ?_
                go_simp
                refine wpAnyH_take (i := 12) (v := ?_) rfl (by kernel_rfl) (by kernel_rfl) (by kernel_rfl) (fun _ _ _ h => h) (Yields.yieldsIf (Or.inl ⟨by kernel_rfl, ?_⟩)) hS ?_
                rotate_left
                · first | (intro w; go_simp; done) | (intro w; go_simp; with_reducible rfl)
                go_simp
                refine wpAnyH_done (by kernel_rfl) ?_ _
                go_wp2
                go_ret
                exact ⟨ret_bool (by rw [HF2.out, hk2.out]; rw [hpv.out]; simp; intros; omega), HB1.out _ (HBW.out _ HS1.out)⟩
              · by_cases hmv : V < m
                · go_upto_region 10 with fail
                  have HS1 : Hid (Below We.heap.size We wa3.drew) := HA3.out.drew
                  refine wp_region_held_drew (S := fun Wv => Below We.heap.size We Wv) (by kernel_rfl) HS1.out (fun hS => ?_)
                  generalize wa3.drew = Wf at *
                  refine wpAnyH_take (i := 0) (v := ?_) rfl (by kernel_rfl) (by kernel_rfl) (by kernel_rfl) (fun _ _ _ h => h) (Yields.yieldsIf (Or.inl ⟨by kernel_rfl, ?_⟩)) hS ?_
                  rotate_left
                  · first | (intro w; go_simp; done) | (intro w; go_simp; with_reducible rfl)
                  refine wpAnyH_take (i := 1) (v := ?_) rfl (by kernel_rfl) (by kernel_rfl) (by kernel_rfl) (fun _ _ _ h => h) (Or.inl ⟨by kernel_rfl, fun W hW => ?_⟩) hS ?_
                  rotate_left
                  · obtain ⟨⟨c0, c1, c2_⟩, c3, c4, c5, c6, c7⟩ := HC.out W (HBW.out W hW); obtain ⟨e0, e1⟩ := HE.out W (HBW.out W hW); obtain ⟨t0_, t1_⟩ := HT.out W hW
                    first | (go_simp; done) | (go_simp; with_reducible rfl)
                  refine wpAnyH_take (i := 2) (v := ?_) rfl (by kernel_rfl) (by kernel_rfl) (by kernel_rfl) (fun _ _ _ h => h) (Yields.yieldsIf (Or.inl ⟨by kernel_rfl, ?_⟩)) hS ?_
                  rotate_left
                  · first | (intro w; go_simp; done) | (intro w; go_simp; with_reducible rfl)
                  refine wpAnyH_take (i := 3) (v := ?_) rfl (by kernel_rfl) (by kernel_rfl) (by kernel_rfl) (fun _ _ _ h => h) (Yields.yieldsIf (Or.inl ⟨by kernel_rfl, ?_⟩)) hS ?_
                  rotate_left
                  · first | (intro w; go_simp; done) | (intro w; go_simp; with_reducible rfl)
                  refine wpAnyH_take (i := 4) (v := ?_) rfl (by kernel_rfl) (by kernel_rfl) (by kernel_rfl) (fun _ _ _ h => h) (Yields.yieldsIf (Or.inl ⟨by kernel_rfl, ?_⟩)) hS ?_
                  rotate_left
                  · first | (intro w; go_simp; done) | (intro w; go_simp; with_reducible rfl)
                  refine wpAnyH_take (i := 5) (v := ?_) rfl (by kernel_rfl) (by kernel_rfl) (by kernel_rfl) (fun _ _ _ h => h) (Or.inl ⟨by kernel_rfl, fun W hW => ?_⟩) hS ?_
                  rotate_left
                  · obtain ⟨⟨c0, c1, c2_⟩, c3, c4, c5, c6, c7⟩ := HC.out W (HBW.out W hW); obtain ⟨e0, e1⟩ := HE.out W (HBW.out W hW); obtain ⟨t0_, t1_⟩ := HT.out W hW
                    first | (go_simp; done) | (go_simp; with_reducible rfl)
                  refine wpAnyH_take (i := 6) (v := ?_) rfl (by kernel_rfl) (by kernel_rfl) (by kernel_rfl) (fun _ _ _ h => h) (Yields.yieldsIf (Or.inl ⟨by kernel_rfl, ?_⟩)) hS ?_
                  rotate_left
                  · first | (intro w; go_simp; done) | (intro w; go_simp; with_reducible rfl)
                  refine wpAnyH_take (i := 7) (v := ?_) rfl (by kernel_rfl) (by kernel_rfl) (by kernel_rfl) (fun _ _ _ h => h) (Or.inl ⟨by kernel_rfl, fun W hW => ?_⟩) hS ?_
                  rotate_left
                  · obtain ⟨⟨c0, c1, c2_⟩, c3, c4, c5, c6, c7⟩ := HC.out W (HBW.out W hW); obtain ⟨e0, e1⟩ := HE.out W (HBW.out W hW); obtain ⟨t0_, t1_⟩ := HT.out W hW
                    first | (go_simp; done) | (go_simp; with_reducible rfl)
                  refine wpAnyH_take (i := 8) (v := ?_) rfl (by kernel_rfl) (by kernel_rfl) (by kernel_rfl) (fun _ _ _ h => h) (Yields.yieldsIf (Or.inl ⟨by kernel_rfl, ?_⟩)) hS ?_
                  rotate_left
                  · first | (intro w; go_simp; done) | (intro w; go_simp; with_reducible rfl)
                  refine wpAnyH_take (i := 9) (v := ?_) rfl (by kernel_rfl) (by kernel_rfl) (by kernel_rfl) (fun _ _ _ h => h) (Or.inl ⟨by kernel_rfl, fun W hW => ?_⟩) hS ?_
                  rotate_left
                  · obtain ⟨⟨c0, c1, c2_⟩, c3, c4, c5, c6, c7⟩ := HC.out W (HBW.out W hW); obtain ⟨e0, e1⟩ := HE.out W (HBW.out W hW); obtain ⟨t0_, t1_⟩ := HT.out W hW
                    first | (go_simp; done) | (go_simp; with_reducible rfl)
                  refine wpAnyH_ready (rs := [10]) (by kernel_rfl) (by simp) ?_
                  refine AllReadyH.cons rfl (fun K hK => ?_) AllReadyH.nil
                  go_simp
                  go_wp2_with (go_at_call 71; refine (HAT.out t _ (HBW.out _ HS1.out)).mono ?_; rintro e wa4 ⟨rfl, hba⟩)
                  rw [HV.out]
                  have HA4 := Lib.hid (HS1.out.trans (hba.mono HS1.out.size))
                  clear hba
                  have hS3 : Below We.heap.size We wa4 := HA4.out
                  refine hK.out _ _ hS3 (fun hS => ?_)
                  clear hK K hS3
                  refine wpAnyH_take (i := 11) (v := ?_) rfl (by kernel_rfl) (by kernel_rfl) (by kernel_rfl) (fun _ _ _ h => h) (Yields.yieldsIf (Or.inl ⟨by kernel_rfl, ?_⟩)) hS ?_
                  rotate_left
                  · first | (intro w; go_simp; done) | (intro w; go_simp; with_reducible rfl)
                  refine wpAnyH_take (i := 12) (v := ?_) rfl (by kernel_rfl) (by kernel_rfl) (by kernel_rfl) (fun _ _ _ h => h) (Yields.yieldsIf (Or.inl ⟨by kernel_rfl, ?_⟩)) hS ?_
                  rotate_left
                  · first | (intro w; go_simp; done) | (intro w; go_simp; with_reducible rfl)
                  refine wpAnyH_done (by kernel_rfl) ?_ _
                  go_wp2
                  go_ret
                  exact ⟨ret_bool (by rw [HF2.out, hk2.out]; rw [hpv.out]; simp; intros; omega), HB1.out _ (HBW.out _ HA4.out)⟩
                · have hnx : Hid (chkS dp (befO sn ((p + 1) + 1)) (sn.drop ((p + 1) + 1)) = G) := by
                    have h1 : 1 ≤ m := by omega
                    have h2 : m ≤ V := by omega
                    show _ = _; rw [hk2.out, hpv.out]; simp [h1, h2]
                  go_upto_region 10 with fail
                  have HS1 : Hid (Below We.heap.size We wa3.drew) := HA3.out.drew
                  refine wp_region_held_drew (S := fun Wv => Below We.heap.size We Wv) (by kernel_rfl) HS1.out (fun hS => ?_)
                  generalize wa3.drew = Wf at *
                  refine wpAnyH_take (i := 0) (v := ?_) rfl (by kernel_rfl) (by kernel_rfl) (by kernel_rfl) (fun _ _ _ h => h) (Yields.yieldsIf (Or.inl ⟨by kernel_rfl, ?_⟩)) hS ?_
                  rotate_left
                  · first | (intro w; go_simp; done) | (intro w; go_simp; with_reducible rfl)
                  refine wpAnyH_take (i := 1) (v := ?_) rfl (by kernel_rfl) (by kernel_rfl) (by kernel_rfl) (fun _ _ _ h => h) (Or.inl ⟨by kernel_rfl, fun W hW => ?_⟩) hS ?_
                  rotate_left
                  · obtain ⟨⟨c0, c1, c2_⟩, c3, c4, c5, c6, c7⟩ := HC.out W (HBW.out W hW); obtain ⟨e0, e1⟩ := HE.out W (HBW.out W hW); obtain ⟨t0_, t1_⟩ := HT.out W hW
                    first | (go_simp; done) | (go_simp; with_reducible rfl)
                  refine wpAnyH_take (i := 2) (v := ?_) rfl (by kernel_rfl) (by kernel_rfl) (by kernel_rfl) (fun _ _ _ h => h) (Yields.yieldsIf (Or.inl ⟨by kernel_rfl, ?_⟩)) hS ?_
                  rotate_left
                  · first | (intro w; go_simp; done) | (intro w; go_simp; with_reducible rfl)
                  refine wpAnyH_take (i := 3) (v := ?_) rfl (by kernel_rfl) (by kernel_rfl) (by kernel_rfl) (fun _ _ _ h => h) (Yields.yieldsIf (Or.inl ⟨by kernel_rfl, ?_⟩)) hS ?_
                  rotate_left
                  · first | (intro w; go_simp; done) | (intro w; go_simp; with_reducible rfl)
                  refine wpAnyH_take (i := 4) (v := ?_) rfl (by kernel_rfl) (by kernel_rfl) (by kernel_rfl) (fun _ _ _ h => h) (Yields.yieldsIf (Or.inl ⟨by kernel_rfl, ?_⟩)) hS ?_
                  rotate_left
                  · first | (intro w; go_simp; done) | (intro w; go_simp; with_reducible rfl)
                  refine wpAnyH_take (i := 5) (v := ?_) rfl (by kernel_rfl) (by kernel_rfl) (by kernel_rfl) (fun _ _ _ h => h) (Or.inl ⟨by kernel_rfl, fun W hW => ?_⟩) hS ?_
                  rotate_left
                  · obtain ⟨⟨c0, c1, c2_⟩, c3, c4, c5, c6, c7⟩ := HC.out W (HBW.out W hW); obtain ⟨e0, e1⟩ := HE.out W (HBW.out W hW); obtain ⟨t0_, t1_⟩ := HT.out W hW
                    first | (go_simp; done) | (go_simp; with_reducible rfl)
                  refine wpAnyH_take (i := 6) (v := ?_) rfl (by kernel_rfl) (by kernel_rfl) (by kernel_rfl) (fun _ _ _ h => h) (Yields.yieldsIf (Or.inl ⟨by kernel_rfl, ?_⟩)) hS ?_
                  rotate_left
                  · first | (intro w; go_simp; done) | (intro w; go_simp; with_reducible rfl)
                  refine wpAnyH_take (i := 7) (v := ?_) rfl (by kernel_rfl) (by kernel_rfl) (by kernel_rfl) (fun _ _ _ h => h) (Or.inl ⟨by kernel_rfl, fun W hW => ?_⟩) hS ?_
                  rotate_left
                  · obtain ⟨⟨c0, c1, c2_⟩, c3, c4, c5, c6, c7⟩ := HC.out W (HBW.out W hW); obtain ⟨e0, e1⟩ := HE.out W (HBW.out W hW); obtain ⟨t0_, t1_⟩ := HT.out W hW
                    first | (go_simp; done) | (go_simp; with_reducible rfl)
                  refine wpAnyH_take (i := 8) (v := ?_) rfl (by kernel_rfl) (by kernel_rfl) (by kernel_rfl) (fun _ _ _ h => h) (Yields.yieldsIf (Or.inl ⟨by kernel_rfl, ?_⟩)) hS ?_
                  rotate_left
                  · first | (intro w; go_simp; done) | (intro w; go_simp; with_reducible rfl)
                  refine wpAnyH_take (i := 9) (v := ?_) rfl (by kernel_rfl) (by kernel_rfl) (by kernel_rfl) (fun _ _ _ h => h) (Or.inl ⟨by kernel_rfl, fun W hW => ?_⟩) hS ?_
                  rotate_left
                  · obtain ⟨⟨c0, c1, c2_⟩, c3, c4, c5, c6, c7⟩ := HC.out W (HBW.out W hW); obtain ⟨e0, e1⟩ := HE.out W (HBW.out W hW); obtain ⟨t0_, t1_⟩ := HT.out W hW
                    first | (go_simp; done) | (go_simp; with_reducible rfl)
                  refine wpAnyH_ready (rs := [10]) (by kernel_rfl) (by simp) ?_
                  refine AllReadyH.cons rfl (fun K hK => ?_) AllReadyH.nil
                  go_simp
                  go_wp2_with (go_at_call 71; refine (HAT.out t _ (HBW.out _ HS1.out)).mono ?_; rintro e wa4 ⟨rfl, hba⟩)
                  rw [HV.out]
                  have HA4 := Lib.hid (HS1.out.trans (hba.mono HS1.out.size))
                  clear hba
                  have hS3 : Below We.heap.size We wa4 := HA4.out
                  refine hK.out _ _ hS3 (fun hS => ?_)
                  clear hK K hS3
                  refine wpAnyH_take (i := 11) (v := ?_) rfl (by kernel_rfl) (by kernel_rfl) (by kernel_rfl) (fun _ _ _ h => h) (Yields.yieldsIf (Or.inl ⟨by kernel_rfl, ?_⟩)) hS ?_
                  rotate_left
                  · first | (intro w; go_simp; done) | (intro w; go_simp; with_reducible rfl)
                  refine wpAnyH_take (i := 12) (v := ?_) rfl (by kernel_rfl) (by kernel_rfl) (by kernel_rfl) (fun _ _ _ h => h) (Yields.yieldsIf (Or.inl ⟨by kernel_rfl, ?_⟩)) hS ?_
                  rotate_left
                  · first | (intro w; go_simp; done) | (intro w; go_simp; with_reducible rfl)
                  refine wpAnyH_done (by kernel_rfl) ?_ _
                  go_wp2
                  go_roundg (a2 - ((p + 1) + 1))
                  case rel => exact ⟨(p + 1) + 1, by omega, rfl, by go_num, hnx, HBW.out _ HA4.out⟩
                  case measure => have := HGK.out; omega
        · have hin : j = a2 := by omega
          subst hin
          have hf : Hid (RF = true) := by show _ = _; rw [HF2.out, ← hat.out, List.drop_eq_nil_of_le (by have := HL.out.2; omega)]; cases befO sn j <;> rfl
          go_wp2
          go_ret
          exact ⟨ret_bool (by rw [hf.out]), HB1.out _ hbw⟩

end Go.Proofs.Ytdffifkleaekhaa.O
