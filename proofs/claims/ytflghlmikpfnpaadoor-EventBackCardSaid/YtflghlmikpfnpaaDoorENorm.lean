/-
  The program's norm.
-/
import Derived.Test.YtflghlmikpfnpaaDoorESmall
namespace Go.Proofs.YtflghlmikpfnpaaDoor.E
open Go.RowKit

set_option maxRecDepth 100000 in
set_option maxHeartbeats 3200000 in
theorem norm_any : ∀ (t : Tr) (m : Int) (P : Nat → Prop) (v : Value) (w : World), InP P w t v → t.okc m = true → m ≤ 4611686018427387904 → Calls Tryd.prog 35 #[v] w (Trees t.norm w) := by
  intro t
  induction t with
  | leaf o =>
    rintro m P v w ⟨A, c, rfl⟩ _ _
    have HX := Lib.hid (((XS.begin w).boxed (.int .i64 o) (.slice A 0 c) 24).fresh (.int .i64 0) (.slice none 0 0) 24)
    simp only [List.nil_append, List.cons_append, World.size_alloc] at HX
    have hc := pleaf_any o A 0 c ((w.alloc (.cells #[.int .i64 o, .slice A 0 c] 24)).alloc (.cells #[.int .i64 0, .slice none 0 0] 24))
    unfold tv at hc ⊢
    go_enter Tryd.func35, Tryd.ntmps35
    go_wp2_with fail
    refine hc.mono ?_
    rintro e w1 ⟨rfl, hb1⟩
    have HX1 := Lib.hid (HX.out.next hb1)
    have f := HX1.out.at0
    simp only [List.mem_cons, List.not_mem_nil, or_false, forall_eq_or_imp, forall_eq] at f
    obtain ⟨p0, p1⟩ := f
    obtain ⟨u0, u1, ⟨c0, c1'⟩, f0, f1⟩ := HX1.out.facts (w.heap.size + 1) (by simp)
    have HFIN : Hid (∀ u1 u2, InP (fun _ => False) ((w1.setCell ⟨w.heap.size + 1, 0, none⟩ u1).setCell ⟨w.heap.size + 1, 1, none⟩ u2) (.leaf o) (tv o none 0 0) ∧ Below w.heap.size w ((w1.setCell ⟨w.heap.size + 1, 0, none⟩ u1).setCell ⟨w.heap.size + 1, 1, none⟩ u2)) := fun u1 u2 => HX1.out.fin (P := fun _ => False) (t := .leaf o) (x := tv o none 0 0) _ (by simp) ⟨none, 0, rfl⟩ _ _
    clear hb1 hc HX HX1
    go_wp2
    refine bodyPost_ret (v := tv o none 0 0) (by simp [results, Tryd.f35, go_sem, tv, c0, c1']) rfl ?_
    exact ⟨_, rfl, (HFIN.out _ _).1.more fun _ h => h.elim, (HFIN.out _ _).2⟩
  | node n x y ihx ihy =>
    rintro m P v w ⟨b, off, c, rfl, hb, ⟨o1, A1, n1, c1, e1, e2, e3⟩, ⟨o2, A2, n2, c2, g1, g2, g3⟩⟩ hok hm
    have hbs : b < w.heap.size := World.block_lt_of_cell? w _ e1
    simp only [Tr.okc, Bool.and_eq_true_iff, decide_eq_true_eq] at hok
    obtain ⟨hn0, hx0, hy0⟩ := hok
    have hxN := okc_N _ _ (okc_norm hx0)
    have hyN := okc_N _ _ (okc_norm hy0)
    have HX := Lib.hid (((XS.begin w).boxed (.int .i64 n) (.slice (some ⟨b, off, none⟩) 2 c) 24).fresh (.int .i64 0) (.slice none 0 0) 24)
    simp only [List.nil_append, List.cons_append, World.size_alloc] at HX
    have hc := pleaf_any n (some ⟨b, off, none⟩) 2 c ((w.alloc (.cells #[.int .i64 n, .slice (some ⟨b, off, none⟩) 2 c] 24)).alloc (.cells #[.int .i64 0, .slice none 0 0] 24))
    have HF : Hid (∀ W, XS w [(w.heap.size, 0, .int .i64 n), (w.heap.size, 1, .slice (some ⟨b, off, none⟩) 2 c)] [w.heap.size, w.heap.size + 1] W → W.cell? ⟨w.heap.size, 0, none⟩ = some (.int .i64 n) ∧ W.cell? ⟨w.heap.size, 1, none⟩ = some (.slice (some ⟨b, off, none⟩) 2 c) ∧ W.cell? ⟨b, off, none⟩ = some (.int .i64 o1) ∧ W.cell? ⟨b, off + 1, none⟩ = some (.slice A1 n1 c1) ∧ W.cell? ⟨b, off + 2, none⟩ = some (.int .i64 o2) ∧ W.cell? ⟨b, off + 2 + 1, none⟩ = some (.slice A2 n2 c2)) := fun W hW => by
      have low : ∀ i, W.cell? ⟨b, i, none⟩ = w.cell? ⟨b, i, none⟩ := fun i => hW.bel.cell hbs
      exact ⟨hW.get (by simp), hW.get (by simp), (low _).trans e1, (low _).trans e2, (low _).trans g1, (low _).trans g2⟩
    have HCX : Hid (∀ W, Below w.heap.size w W → Calls Tryd.prog 35 #[.agg #[.int .i64 o1, .slice A1 n1 c1]] W (Trees x.norm W)) := fun W hW => ihx (m - n) P _ W (e3.stay hW) hx0 (by omega)
    have HCY : Hid (∀ W, Below w.heap.size w W → Calls Tryd.prog 35 #[.agg #[.int .i64 o2, .slice A2 n2 c2]] W (Trees y.norm W)) := fun W hW => ihy (m - n) P _ W (g3.stay hW) hy0 (by omega)
    have HCR : Hid (∀ W (Q : Nat → Prop) u v, InP Q W x.norm u → InP Q W y.norm v → Calls Tryd.prog 69 #[.int .i64 n, u, v] W fun e w' => ∃ v', e = .returned v' ∧ InP (fun b => Q b ∨ New W w' b) w' (Tr.raise n x.norm y.norm) v' ∧ Below W.heap.size W w') := fun W Q u v hu hv => raise_any n x.norm y.norm u v W hu hv (by omega) (by omega) (by omega) (by omega) (by omega) (by omega)
    have HNM : Hid ((Tr.node n x y).norm = Tr.raise n x.norm y.norm) := rfl
    unfold tv at hc ⊢
    clear ihx ihy e1 e2 e3 g1 g2 g3 hx0 hy0 hxN hyN
    go_enter Tryd.func35, Tryd.ntmps35
    go_wp2_with fail
    refine hc.mono ?_
    rintro e w1 ⟨rfl, hb1⟩
    have hXD := (HX.out.next hb1).drew
    clear hb1 hc HX
    go_wp2
    refine wp_region_held_drew (S := fun W => XS w [(w.heap.size, 0, .int .i64 n), (w.heap.size, 1, .slice (some ⟨b, off, none⟩) 2 c)] [w.heap.size, w.heap.size + 1] W) (by kernel_rfl) hXD (fun hS => ?_)
    clear hXD
    generalize w1.drew = wd at hS ⊢
    refine wpAnyH_take (i := 0) (v := ?_) rfl (by kernel_rfl) (by kernel_rfl) (by kernel_rfl) (fun _ _ _ h => h) (Yields.yieldsIf (Or.inl ⟨by kernel_rfl, ?_⟩)) hS ?_
    rotate_left
    · first | (intro w; go_simp; done) | (intro w; go_simp; with_reducible rfl)
    refine wpAnyH_take (i := 1) (v := ?_) rfl (by kernel_rfl) (by kernel_rfl) (by kernel_rfl) (fun _ _ _ h => h) (Or.inl ⟨by kernel_rfl, fun W hW => ?_⟩) hS ?_
    rotate_left
    · obtain ⟨f0, f1, f2, f3, f4, f5⟩ := HF.out W hW
      first | (go_simp; done) | (go_simp; with_reducible rfl)
    refine wpAnyH_take (i := 2) (v := ?_) rfl (by kernel_rfl) (by kernel_rfl) (by kernel_rfl) (fun _ _ _ h => h) (Yields.yieldsIf (Or.inl ⟨by kernel_rfl, ?_⟩)) hS ?_
    rotate_left
    · first | (intro w; go_simp; done) | (intro w; go_simp; with_reducible rfl)
    refine wpAnyH_take (i := 3) (v := ?_) rfl (by kernel_rfl) (by kernel_rfl) (by kernel_rfl) (fun _ _ _ h => h) (Or.inl ⟨by kernel_rfl, fun W hW => ?_⟩) hS ?_
    rotate_left
    · obtain ⟨f0, f1, f2, f3, f4, f5⟩ := HF.out W hW
      first | (go_simp; done) | (go_simp; with_reducible rfl)
    refine wpAnyH_take (i := 4) (v := ?_) rfl (by kernel_rfl) (by kernel_rfl) (by kernel_rfl) (fun _ _ _ h => h) (Yields.yieldsIf (Or.inl ⟨by kernel_rfl, ?_⟩)) hS ?_
    rotate_left
    · first | (intro w; go_simp; done) | (intro w; go_simp; with_reducible rfl)
    refine wpAnyH_take (i := 5) (v := ?_) rfl (by kernel_rfl) (by kernel_rfl) (by kernel_rfl) (fun _ _ _ h => h) (Or.inl ⟨by kernel_rfl, fun W hW => ?_⟩) hS ?_
    rotate_left
    · obtain ⟨f0, f1, f2, f3, f4, f5⟩ := HF.out W hW
      first | (go_simp; done) | (go_simp; with_reducible rfl)
    refine wpAnyH_take (i := 7) (v := ?_) rfl (by kernel_rfl) (by kernel_rfl) (by kernel_rfl) (fun _ _ _ h => h) (Yields.yieldsIf (Or.inl ⟨by kernel_rfl, ?_⟩)) hS ?_
    rotate_left
    · first | (intro w; go_simp; done) | (intro w; go_simp; with_reducible rfl)
    refine wpAnyH_take (i := 8) (v := ?_) rfl (by kernel_rfl) (by kernel_rfl) (by kernel_rfl) (fun _ _ _ h => h) (Or.inl ⟨by kernel_rfl, fun W hW => ?_⟩) hS ?_
    rotate_left
    · obtain ⟨f0, f1, f2, f3, f4, f5⟩ := HF.out W hW
      first | (go_simp; done) | (go_simp; with_reducible rfl)
    refine wpAnyH_take (i := 9) (v := ?_) rfl (by kernel_rfl) (by kernel_rfl) (by kernel_rfl) (fun _ _ _ h => h) (Yields.yieldsIf (Or.inl ⟨by kernel_rfl, ?_⟩)) hS ?_
    rotate_left
    · first | (intro w; go_simp; done) | (intro w; go_simp; with_reducible rfl)
    refine wpAnyH_take (i := 10) (v := ?_) rfl (by kernel_rfl) (by kernel_rfl) (by kernel_rfl) (fun _ _ _ h => h) (Or.inl ⟨by kernel_rfl, fun W hW => ?_⟩) hS ?_
    rotate_left
    · obtain ⟨f0, f1, f2, f3, f4, f5⟩ := HF.out W hW
      first | (go_simp; done) | (go_simp; with_reducible rfl)
    refine wpAnyH_ready (rs := [6]) (by kernel_rfl) (by simp) ?_
    refine AllReadyH.cons rfl (fun K hK => ?_) AllReadyH.nil
    go_simp
    go_wp2_with (go_at_call 35; refine (HCX.out _ hS.bel).mono ?_; rintro e w3 ⟨v1, rfl, ht1, hb3⟩)
    have hS3 := hS.next hb3
    have HT1 : Hid (InP (New w w3) w3 x.norm v1) := ht1.more fun b hb => ⟨Nat.le_trans hS.bel.size hb.1, hb.2⟩
    clear hb3 ht1 hS
    refine hK.out _ _ hS3 (fun hS => ?_)
    clear hK K hS3
    refine wpAnyH_ready (rs := [11]) (by kernel_rfl) (by simp) ?_
    refine AllReadyH.cons rfl (fun K hK => ?_) AllReadyH.nil
    go_simp
    go_wp2_with (go_at_call 35; refine (HCY.out _ hS.bel).mono ?_; rintro e w4 ⟨v2, rfl, ht2, hb4⟩)
    have hS3 := hS.next hb4
    have HT2 : Hid (InP (New w w4) w4 x.norm v1) := (HT1.out.stay hb4).more fun b hb => ⟨hb.1, Nat.lt_of_lt_of_le hb.2 hb4.size⟩
    have HT3 : Hid (InP (New w w4) w4 y.norm v2) := ht2.more fun b hb => ⟨Nat.le_trans hS.bel.size hb.1, hb.2⟩
    clear hb4 ht2 hS HT1 HCX HCY
    refine hK.out _ _ hS3 (fun hS => ?_)
    clear hK K hS3
    refine wpAnyH_ready (rs := [12]) (by kernel_rfl) (by simp) ?_
    refine AllReadyH.cons rfl (fun K hK => ?_) AllReadyH.nil
    go_simp
    go_wp2_with (go_at_call 69; refine (HCR.out _ _ _ _ HT2.out HT3.out).mono ?_; rintro e w5 ⟨v3, rfl, ht3, hb5⟩)
    have hS3 := hS.next hb5
    have HT4 : Hid (InP (New w w5) w5 (Tr.raise n x.norm y.norm) v3) := ht3.more fun b hb => by
      rcases hb with hb | hb
      · exact ⟨hb.1, Nat.lt_of_lt_of_le hb.2 hb5.size⟩
      · exact ⟨Nat.le_trans hS.bel.size hb.1, hb.2⟩
    clear hb5 ht3 hS HT2 HT3 HCR
    refine hK.out _ _ hS3 (fun hS => ?_)
    clear hK K hS3
    obtain ⟨A5, n5, c5, rfl⟩ := HT4.out.form
    have HS := Lib.hid hS
    obtain ⟨u0, u1, ⟨c0, c1'⟩, f0, f1⟩ := hS.facts (w.heap.size + 1) (by simp)
    have HFIN : Hid (∀ u1 u2, InP (New w w5) ((w5.setCell ⟨w.heap.size + 1, 0, none⟩ u1).setCell ⟨w.heap.size + 1, 1, none⟩ u2) (Tr.raise n x.norm y.norm) (tv (Tr.raise n x.norm y.norm).N A5 n5 c5) ∧ Below w.heap.size w ((w5.setCell ⟨w.heap.size + 1, 0, none⟩ u1).setCell ⟨w.heap.size + 1, 1, none⟩ u2)) := fun u1 u2 => hS.fin (w.heap.size + 1) (by simp) HT4.out _ _
    obtain ⟨z, hz⟩ : ∃ z, (Tr.raise n x.norm y.norm).N = z := ⟨_, rfl⟩
    rw [hz] at HFIN ⊢
    clear HT4 hz hS
    unfold tv
    refine wpAnyH_ready (rs := [13]) (by kernel_rfl) (by simp) ?_
    refine AllReadyH.cons rfl (fun K hK => ?_) AllReadyH.nil
    go_simp
    go_wp2
    refine hK.out _ _ ((HS.out.store (w.heap.size + 1) 0 _ (by simp) (by simp)).store (w.heap.size + 1) 1 _ (by simp) (by simp)) (fun _ => ?_)
    clear hK K HS
    refine wpAnyH_done (by kernel_rfl) ?_ _
    go_wp2
    refine bodyPost_ret (v := tv z A5 n5 c5) (by simp [results, Tryd.f35, go_sem, tv, c0, c1']) rfl ?_
    refine ⟨_, rfl, ?_, (HFIN.out _ _).2⟩
    rw [HNM.out]
    exact (HFIN.out _ _).1.more fun b hb => ⟨hb.1, by rw [size_set, size_set]; exact hb.2⟩
end Go.Proofs.YtflghlmikpfnpaaDoor.E
