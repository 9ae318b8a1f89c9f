/-
  Stamps: the growth of a node's identity, whether it meets a node or a leaf.
-/
import Derived.Test.YtoaglkjpjolacaaGreatDoorVSG
namespace Go.Proofs.YtoaglkjpjolacaaGreatDoor.S
open Go.RowKit
set_option maxRecDepth 100000 in
set_option maxHeartbeats 12800000 in
theorem grow2_node {f : E.Tr → E.Tr × Cost} {D : E.Tr → Prop} {G : Value} {gG : Nat} {e : E.Tr} {z : Int} {A : Option Addr} {c : Nat} (w : World)
    (j0 : w.cell? ⟨gG, 0, none⟩ = some G) (h : RunC w D f G) (he : ET w e (E.tv z A 2 c)) (hd : D e) :
    Calls Tryz.prog 86 #[E.tv z A 2 c, .pointer (some ⟨gG, 0, none⟩)] w (GrowI (f e) w) := by
  obtain ⟨fn, caps, rfl, en, cal⟩ := h
  have cal' : ∀ (W : World) (v : Value), Below w.heap.size w W → ET W e v → Calls Tryz.prog fn (#[v] ++ caps) W (GrowI (f e) W) := fun W v hb hv => cal W e v hb hv hd
  clear cal hd
  generalize f e = r5 at *
  obtain ⟨t5, k1, k2⟩ := r5
  have HX0 := Lib.hid ((((SX.begin w).two (.int .i64 z) (.slice A 2 c) 27).two (.int .i64 0) (.slice none 0 0) 27).two (.int .i64 0) (.int .i64 0) 57)
  have hc := sleaf_any z A 2 c ((((w.alloc (.cells #[.int .i64 z, .slice A 2 c] 27)).alloc (.cells #[.int .i64 0, .slice none 0 0] 27)).alloc (.cells #[.int .i64 0, .int .i64 0] 57)))
  rw [show decide ((2 : Nat) = 0) = false from rfl] at hc
  simp only [List.nil_append, List.cons_append, World.size_alloc] at HX0
  have lG : gG < w.heap.size := World.block_lt_of_cell? w _ j0
  have HO : Hid (∀ W, Below w.heap.size w W → W.cell? ⟨gG, 0, none⟩ = some (.func (.func fn) #[] caps)) := fun W hb => (hb.cell lG).trans j0
  have HE := Lib.hid he
  have CAL := Lib.hid cal'
  clear j0 he cal' lG
  unfold E.tv at hc ⊢
  go_enter Tryz.func86, Tryz.ntmps86
  go_wp2_with fail
  refine hc.mono ?_
  rintro e w1 ⟨rfl, hb1⟩
  have HX1 := Lib.hid (HX0.out.next hb1)
  clear hc hb1 HX0
  have hca := CAL.out w1 (E.tv z A 2 c) HX1.out.bel (E.InP.up HE.out HX1.out.bel)
  have a0 := HO.out w1 HX1.out.bel
  have f := HX1.out.at0
  simp only [List.mem_cons, List.not_mem_nil, or_false, forall_eq_or_imp, forall_eq] at f
  obtain ⟨p0, p1, p2, p3, p4, p5⟩ := f
  unfold E.tv at hca
  go_wp2_with fail
  refine hca.mono ?_
  rintro e w2 ⟨v5, rfl, ht5, hb2⟩
  obtain ⟨A5, n5, c5, rfl⟩ := E.InP.form ht5
  simp only at ht5 ⊢
  obtain ⟨z5, hz5⟩ : ∃ z5, t5.N = z5 := ⟨_, rfl⟩
  rw [hz5] at ht5 ⊢
  clear hz5
  have HX2 := Lib.hid ((HX1.out.next hb2).e ht5)
  clear hca hb2 ht5 HX1 a0 p0 p1 p2 p3 p4 p5
  unfold E.tv cv
  obtain ⟨y0, y1, q0, q1, q2, q3⟩ := HX2.out.facts2 (w.heap.size + 1) (by simp)
  obtain ⟨x0, x1, r0, r1, r2, r3⟩ := HX2.out.facts2 (w.heap.size + 1 + 1) (by simp)
  have HX3 := Lib.hid ((HX2.out.sub (bs' := []) (rs' := [(w.heap.size, 2), (w.heap.size + 1, 2), (w.heap.size + 1 + 1, 2)]) (is' := []) (es' := [(t5, E.tv z5 A5 n5 c5)]) (by simp) (by simp) (by simp) (by simp)).set2 (w.heap.size + 1) (.int .i64 z5) (.slice A5 n5 c5) (by simp) (by simp) (by simp))
  have HX4 := Lib.hid (HX3.out.set2 (w.heap.size + 1 + 1) (.int .i64 (k1 : Int)) (.int .i64 (k2 : Int)) (by simp) (by simp only [List.mem_cons, List.not_mem_nil, or_false, forall_eq_or_imp, forall_eq]; omega) (by simp))
  clear HX2 HX3
  go_wp2
  have f := HX4.out.at0
  simp only [List.mem_cons, List.not_mem_nil, or_false, forall_eq_or_imp, forall_eq] at f
  obtain ⟨p0, p1, p2, p3⟩ := f
  refine bodyPost_ret (v := .tuple #[E.tv z5 A5 n5 c5, cv (k1, k2)]) (by simp [results, Tryz.f86, go_sem, E.tv, cv, *]) rfl ?_
  exact ⟨_, rfl, HX4.out.eget (by simp), HX4.out.bel⟩

set_option maxRecDepth 100000 in
set_option maxHeartbeats 12800000 in
theorem grow2_leaf {f : E.Tr → E.Tr × Cost} {D : E.Tr → Prop} {G : Value} {gG : Nat} {z : Int} {A : Option Addr} {c : Nat} (w : World)
    (j0 : w.cell? ⟨gG, 0, none⟩ = some G) (h : RunC w D f G) (hd : D (.node z (.leaf 0) (.leaf 0))) (hk : (f (.node z (.leaf 0) (.leaf 0))).2.1 ≤ 1000000) :
    Calls Tryz.prog 86 #[E.tv z A 0 c, .pointer (some ⟨gG, 0, none⟩)] w (GrowI ((f (.node z (.leaf 0) (.leaf 0))).1, ((f (.node z (.leaf 0) (.leaf 0))).2.1 + 1, (f (.node z (.leaf 0) (.leaf 0))).2.2)) w) := by
  obtain ⟨fn, caps, rfl, en, cal⟩ := h
  have cal' : ∀ (W : World) (v : Value), Below w.heap.size w W → ET W (.node z (.leaf 0) (.leaf 0)) v → Calls Tryz.prog fn (#[v] ++ caps) W (GrowI (f (.node z (.leaf 0) (.leaf 0))) W) := fun W v hb hv => cal W _ v hb hv hd
  clear cal hd
  generalize f (.node z (.leaf 0) (.leaf 0)) = r5 at *
  obtain ⟨t5, k1, k2⟩ := r5
  have hw1 : IntKind.i64.wrap ((k1 : Int) + 1) = (k1 : Int) + 1 := E.wrap_id (by omega) (by simp only at hk; omega)
  clear hk
  have HX0 := Lib.hid ((((SX.begin w).two (.int .i64 z) (.slice A 0 c) 27).two (.int .i64 0) (.slice none 0 0) 27).two (.int .i64 0) (.int .i64 0) 57)
  have hc := sleaf_any z A 0 c ((((w.alloc (.cells #[.int .i64 z, .slice A 0 c] 27)).alloc (.cells #[.int .i64 0, .slice none 0 0] 27)).alloc (.cells #[.int .i64 0, .int .i64 0] 57)))
  rw [show decide ((0 : Nat) = 0) = true from rfl] at hc
  simp only [List.nil_append, List.cons_append, World.size_alloc] at HX0
  have s0 : w.heap.size + 3 ≤ ((((w.alloc (.cells #[.int .i64 z, .slice A 0 c] 27)).alloc (.cells #[.int .i64 0, .slice none 0 0] 27)).alloc (.cells #[.int .i64 0, .int .i64 0] 57))).heap.size := by simp
  have lG : gG < w.heap.size := World.block_lt_of_cell? w _ j0
  have HO : Hid (∀ W, Below w.heap.size w W → W.cell? ⟨gG, 0, none⟩ = some (.func (.func fn) #[] caps)) := fun W hb => (hb.cell lG).trans j0
  have CAL := Lib.hid cal'
  clear j0 cal' lG
  unfold E.tv at hc ⊢
  go_enter Tryz.func86, Tryz.ntmps86
  go_wp2_with fail
  refine hc.mono ?_
  rintro e w1 ⟨rfl, hb1⟩
  have HX1 := Lib.hid (HX0.out.next hb1)
  have s1 : w.heap.size + 3 ≤ w1.heap.size := Nat.le_trans s0 hb1.size
  clear hc hb1 HX0 s0
  go_upto_region 3 with fail
  go_cut [5, 6] (fun s6 s7 wx => ∃ (g6 g7 : Nat) (z5 : Int) (A5 : Option Addr) (n5 c5 : Nat), s6 = .pointer (some ⟨g6, 0, none⟩) ∧ s7 = .pointer (some ⟨g7, 0, none⟩) ∧ w.heap.size + 3 ≤ g6 ∧ w.heap.size + 3 ≤ g7 ∧ g6 ≠ g7 ∧ SX w [(g6, 0, .int .i64 z5), (g6, 1, .slice A5 n5 c5), (g7, 0, .int .i64 (k1 : Int)), (g7, 1, .int .i64 (k2 : Int))] [(w.heap.size, 2), (w.heap.size + 1, 2), (w.heap.size + 1 + 1, 2), (g6, 2), (g7, 2)] [] [(t5, E.tv z5 A5 n5 c5)] wx)
  case first =>
    refine wp_region_held_drew (S := fun W => SX w [(w.heap.size, 0, .int .i64 z), (w.heap.size, 1, .slice A 0 c)] [(w.heap.size, 2), (w.heap.size + 1, 2), (w.heap.size + 1 + 1, 2)] [] [] W) (by kernel_rfl) ((HX1.out.drew).sub0 (by simp) (by simp)) (fun hS => ?_)
    have HXd := Lib.hid ((HX1.out.drew).sub0 (bs' := [(w.heap.size, 0, .int .i64 z), (w.heap.size, 1, .slice A 0 c)]) (rs' := [(w.heap.size, 2), (w.heap.size + 1, 2), (w.heap.size + 1 + 1, 2)]) (by simp) (by simp))
    have sd : w.heap.size + 3 ≤ w1.drew.heap.size := by simpa using s1
    clear HX1
    generalize w1.drew = wd at *
    refine wpAnyH_take (i := 0) (v := ?_) rfl (by kernel_rfl) (by kernel_rfl) (by kernel_rfl) (fun _ _ _ h => h) (Or.inl ⟨by kernel_rfl, fun W hW => ?_⟩) hS ?_
    rotate_left
    · have a0 := HO.out W hW.bel
      have f := hW.at0
      simp only [List.mem_cons, List.not_mem_nil, or_false, forall_eq_or_imp, forall_eq] at f
      obtain ⟨p0, p1⟩ := f
      first | (go_simp; done) | (go_simp; with_reducible rfl)
    refine wpAnyH_take (i := 1) (v := ?_) rfl (by kernel_rfl) (by kernel_rfl) (by kernel_rfl) (fun _ _ _ h => h) (Yields.yieldsIf (Or.inl ⟨by kernel_rfl, ?_⟩)) hS ?_
    rotate_left
    · first | (intro w; go_simp; done) | (intro w; go_simp; with_reducible rfl)
    refine wpAnyH_take (i := 2) (v := ?_) rfl (by kernel_rfl) (by kernel_rfl) (by kernel_rfl) (fun _ _ _ h => h) (Or.inl ⟨by kernel_rfl, fun W hW => ?_⟩) hS ?_
    rotate_left
    · have a0 := HO.out W hW.bel
      have f := hW.at0
      simp only [List.mem_cons, List.not_mem_nil, or_false, forall_eq_or_imp, forall_eq] at f
      obtain ⟨p0, p1⟩ := f
      first | (go_simp; done) | (go_simp; with_reducible rfl)
    refine wpAnyH_take (i := 3) (v := ?_) rfl (by kernel_rfl) (by kernel_rfl) (by kernel_rfl) (fun _ _ _ h => h) (Yields.yieldsIf (Or.inl ⟨by kernel_rfl, ?_⟩)) hS ?_
    rotate_left
    · first | (intro w; go_simp; done) | (intro w; go_simp; with_reducible rfl)
    refine wpAnyH_take (i := 4) (v := ?_) rfl (by kernel_rfl) (by kernel_rfl) (by kernel_rfl) (fun _ _ _ h => h) (Yields.yieldsIf (Or.inl ⟨by kernel_rfl, ?_⟩)) hS ?_
    rotate_left
    · first | (intro w; go_simp; done) | (intro w; go_simp; with_reducible rfl)
    refine wpAnyH_ready (rs := [5, 10, 11]) (by kernel_rfl) (by simp) ?_
    refine AllReadyH.cons rfl (fun K hK => ?_) (AllReadyH.cons rfl (fun K hK => ?_) (AllReadyH.cons rfl (fun K hK => ?_) AllReadyH.nil))
    · have hcall := snode_any z (.leaf 0) (.leaf 0) (E.tv 0 none 0 0) (E.tv 0 none 0 0) wd ⟨none, 0, rfl⟩ ⟨none, 0, rfl⟩
      unfold E.tv at hcall
      go_simp
      go_wp2_with fail
      refine hcall.mono ?_
      rintro e wdx ⟨v6, rfl, ht6, hbx⟩
      obtain ⟨A6, n6, c6, rfl⟩ := E.InP.form ht6
      simp only [E.Tr.N] at ht6 ⊢
      have HXdx := Lib.hid ((HXd.out.next hbx).e ht6)
      have szwdx : wd.heap.size ≤ wdx.heap.size := hbx.size
      clear hcall ht6 hbx HXd
      unfold E.tv
      refine hK.out _ _ (HXdx.out.sub0 (by simp) (by simp)) (fun hS => ?_)
      clear hK K
      refine wpAnyH_ready (rs := [6, 10, 11]) (by kernel_rfl) (by simp) ?_
      refine AllReadyH.cons rfl (fun K hK => ?_) (AllReadyH.cons rfl (fun K hK => ?_) (AllReadyH.cons rfl (fun K hK => ?_) AllReadyH.nil))
      · have hcall := CAL.out wdx (E.tv z A6 n6 c6) HXdx.out.bel (HXdx.out.eget (by simp))
        unfold E.tv at hcall
        go_simp
        go_wp2_with fail
        refine hcall.mono ?_
        rintro e wdxx ⟨v5, rfl, ht5, hbx⟩
        obtain ⟨A5, n5, c5, rfl⟩ := E.InP.form ht5
        simp only at ht5 ⊢
        obtain ⟨z5, hz5⟩ : ∃ z5, t5.N = z5 := ⟨_, rfl⟩
        rw [hz5] at ht5 ⊢
        clear hz5
        have HXdxx := Lib.hid ((HXdx.out.next hbx).e ht5)
        have szwdxx : wdx.heap.size ≤ wdxx.heap.size := hbx.size
        clear hcall ht5 hbx HXdx
        unfold E.tv cv
        refine hK.out _ _ (HXdxx.out.sub0 (by simp) (by simp)) (fun hS => ?_)
        clear hK K
        refine wpAnyH_take (i := 7) (v := ?_) rfl (by kernel_rfl) (by kernel_rfl) (by kernel_rfl) (fun _ _ _ h => h) (Yields.yieldsIf (Or.inl ⟨by kernel_rfl, ?_⟩)) hS ?_
        rotate_left
        · first | (intro w; go_simp; done) | (intro w; go_simp; with_reducible rfl)
        refine wpAnyH_take (i := 8) (v := ?_) rfl (by kernel_rfl) (by kernel_rfl) (by kernel_rfl) (fun _ _ _ h => h) (Yields.yieldsIf (Or.inl ⟨by kernel_rfl, ?_⟩)) hS ?_
        rotate_left
        · first | (intro w; go_simp; done) | (intro w; go_simp; with_reducible rfl)
        refine wpAnyH_take (i := 9) (v := ?_) rfl (by kernel_rfl) (by kernel_rfl) (by kernel_rfl) (fun _ _ _ h => h) (Yields.yieldsIf (Or.inl ⟨by kernel_rfl, ?_⟩)) hS ?_
        rotate_left
        · first | (intro w; go_simp; done) | (intro w; go_simp; with_reducible rfl)
        refine wpAnyH_ready (rs := [10, 11]) (by kernel_rfl) (by simp) ?_
        refine AllReadyH.cons rfl (fun K hK => ?_) (AllReadyH.cons rfl (fun K hK => ?_) AllReadyH.nil)
        · go_simp
          go_wp2
          have HXdxxx' := HXdxx.out.two (.int .i64 0) (.slice none 0 0) 27
          have HXdxxx := Lib.hid HXdxxx'
          clear HXdxxx' HXdxx
          simp only [List.nil_append, List.cons_append] at HXdxxx
          refine hK.out _ _ (HXdxxx.out.sub0 (by simp) (by simp)) (fun hS => ?_)
          clear hK K
          have szwdxxx : wdxx.heap.size < (wdxx.alloc (.cells #[.int .i64 0, .slice none 0 0] 27)).heap.size := by simp
          generalize wdxx.alloc (.cells #[.int .i64 0, .slice none 0 0] 27) = wdxxx at *
          refine wpAnyH_ready (rs := [11]) (by kernel_rfl) (by simp) ?_
          refine AllReadyH.cons rfl (fun K hK => ?_) AllReadyH.nil
          go_simp
          go_wp2
          have HXdxxxx' := HXdxxx.out.two (.int .i64 0) (.int .i64 0) 57
          have HXdxxxx := Lib.hid HXdxxxx'
          clear HXdxxxx' HXdxxx
          simp only [List.nil_append, List.cons_append] at HXdxxxx
          refine hK.out _ _ (HXdxxxx.out.sub0 (by simp) (by simp)) (fun hS => ?_)
          clear hK K
          have szwdxxxx : wdxxx.heap.size < (wdxxx.alloc (.cells #[.int .i64 0, .int .i64 0] 57)).heap.size := by simp
          generalize wdxxx.alloc (.cells #[.int .i64 0, .int .i64 0] 57) = wdxxxx at *
          refine wpAnyH_ready (rs := [12]) (by kernel_rfl) (by simp) ?_
          refine AllReadyH.cons rfl (fun K hK => ?_) AllReadyH.nil
          obtain ⟨y0, y1, q0, q1, q2, q3⟩ := HXdxxxx.out.facts2 (wdxx.heap.size) (by simp)
          go_simp
          go_wp2
          have HXdxxxxx := Lib.hid ((HXdxxxx.out.sub (bs' := [(w.heap.size, 0, .int .i64 z), (w.heap.size, 1, .slice A 0 c), (wdxxx.heap.size, 0, .int .i64 0), (wdxxx.heap.size, 1, .int .i64 0)]) (rs' := [(w.heap.size, 2), (w.heap.size + 1, 2), (w.heap.size + 1 + 1, 2), (wdxx.heap.size, 2), (wdxxx.heap.size, 2)]) (is' := []) (es' := [(t5, E.tv z5 A5 n5 c5)]) (by simp) (by simp) (by simp) (by simp)).set2 (wdxx.heap.size) (.int .i64 z5) (.slice A5 n5 c5) (by simp) (by simp only [List.mem_cons, List.not_mem_nil, or_false, forall_eq_or_imp, forall_eq]; omega) (by simp))
          clear q0 q1 q2 q3 HXdxxxx
          refine hK.out _ _ (HXdxxxxx.out.sub0 (by simp) (by simp)) (fun hS => ?_)
          clear hK K
          generalize (wdxxxx.setCell ⟨wdxx.heap.size, 0, none⟩ (.int .i64 z5)).setCell ⟨wdxx.heap.size, 1, none⟩ (.slice A5 n5 c5) = wdxxxxx at *
          refine wpAnyH_ready (rs := [13]) (by kernel_rfl) (by simp) ?_
          refine AllReadyH.cons rfl (fun K hK => ?_) AllReadyH.nil
          obtain ⟨y0, y1, q0, q1, q2, q3⟩ := HXdxxxxx.out.facts2 (wdxxx.heap.size) (by simp)
          go_simp
          go_wp2
          have HXdxxxxxx := Lib.hid ((HXdxxxxx.out.sub (bs' := [(w.heap.size, 0, .int .i64 z), (w.heap.size, 1, .slice A 0 c), (wdxx.heap.size, 0, (.int .i64 z5)), (wdxx.heap.size, 1, (.slice A5 n5 c5))]) (rs' := [(w.heap.size, 2), (w.heap.size + 1, 2), (w.heap.size + 1 + 1, 2), (wdxx.heap.size, 2), (wdxxx.heap.size, 2)]) (is' := []) (es' := [(t5, E.tv z5 A5 n5 c5)]) (by simp) (by simp) (by simp) (by simp)).set2 (wdxxx.heap.size) (.int .i64 (k1 : Int)) (.int .i64 (k2 : Int)) (by simp) (by simp only [List.mem_cons, List.not_mem_nil, or_false, forall_eq_or_imp, forall_eq]; omega) (by simp))
          clear q0 q1 q2 q3 HXdxxxxx
          refine hK.out _ _ (HXdxxxxxx.out.sub0 (by simp) (by simp)) (fun hS => ?_)
          clear hK K
          generalize (wdxxxxx.setCell ⟨wdxxx.heap.size, 0, none⟩ (.int .i64 (k1 : Int))).setCell ⟨wdxxx.heap.size, 1, none⟩ (.int .i64 (k2 : Int)) = wdxxxxxx at *
          try go_simp
          refine wpAnyH_done (by kernel_rfl) ?_ _
          go_wp2_with fail
          go_meet
          exact ⟨wdxx.heap.size, wdxxx.heap.size, z5, A5, n5, c5, rfl, rfl, by omega, by omega, by omega, HXdxxxxxx.out.sub (by simp) (by simp) (by simp) (by simp)⟩
        · go_simp
          go_wp2
          have HXdxxx' := HXdxx.out.two (.int .i64 0) (.int .i64 0) 57
          have HXdxxx := Lib.hid HXdxxx'
          clear HXdxxx' HXdxx
          simp only [List.nil_append, List.cons_append] at HXdxxx
          refine hK.out _ _ (HXdxxx.out.sub0 (by simp) (by simp)) (fun hS => ?_)
          clear hK K
          have szwdxxx : wdxx.heap.size < (wdxx.alloc (.cells #[.int .i64 0, .int .i64 0] 57)).heap.size := by simp
          generalize wdxx.alloc (.cells #[.int .i64 0, .int .i64 0] 57) = wdxxx at *
          refine wpAnyH_ready (rs := [10]) (by kernel_rfl) (by simp) ?_
          refine AllReadyH.cons rfl (fun K hK => ?_) AllReadyH.nil
          go_simp
          go_wp2
          have HXdxxxx' := HXdxxx.out.two (.int .i64 0) (.slice none 0 0) 27
          have HXdxxxx := Lib.hid HXdxxxx'
          clear HXdxxxx' HXdxxx
          simp only [List.nil_append, List.cons_append] at HXdxxxx
          refine hK.out _ _ (HXdxxxx.out.sub0 (by simp) (by simp)) (fun hS => ?_)
          clear hK K
          have szwdxxxx : wdxxx.heap.size < (wdxxx.alloc (.cells #[.int .i64 0, .slice none 0 0] 27)).heap.size := by simp
          generalize wdxxx.alloc (.cells #[.int .i64 0, .slice none 0 0] 27) = wdxxxx at *
          refine wpAnyH_ready (rs := [12]) (by kernel_rfl) (by simp) ?_
          refine AllReadyH.cons rfl (fun K hK => ?_) AllReadyH.nil
          obtain ⟨y0, y1, q0, q1, q2, q3⟩ := HXdxxxx.out.facts2 (wdxxx.heap.size) (by simp)
          go_simp
          go_wp2
          have HXdxxxxx := Lib.hid ((HXdxxxx.out.sub (bs' := [(w.heap.size, 0, .int .i64 z), (w.heap.size, 1, .slice A 0 c), (wdxx.heap.size, 0, .int .i64 0), (wdxx.heap.size, 1, .int .i64 0)]) (rs' := [(w.heap.size, 2), (w.heap.size + 1, 2), (w.heap.size + 1 + 1, 2), (wdxx.heap.size, 2), (wdxxx.heap.size, 2)]) (is' := []) (es' := [(t5, E.tv z5 A5 n5 c5)]) (by simp) (by simp) (by simp) (by simp)).set2 (wdxxx.heap.size) (.int .i64 z5) (.slice A5 n5 c5) (by simp) (by simp only [List.mem_cons, List.not_mem_nil, or_false, forall_eq_or_imp, forall_eq]; omega) (by simp))
          clear q0 q1 q2 q3 HXdxxxx
          refine hK.out _ _ (HXdxxxxx.out.sub0 (by simp) (by simp)) (fun hS => ?_)
          clear hK K
          generalize (wdxxxx.setCell ⟨wdxxx.heap.size, 0, none⟩ (.int .i64 z5)).setCell ⟨wdxxx.heap.size, 1, none⟩ (.slice A5 n5 c5) = wdxxxxx at *
          refine wpAnyH_ready (rs := [13]) (by kernel_rfl) (by simp) ?_
          refine AllReadyH.cons rfl (fun K hK => ?_) AllReadyH.nil
          obtain ⟨y0, y1, q0, q1, q2, q3⟩ := HXdxxxxx.out.facts2 (wdxx.heap.size) (by simp)
          go_simp
          go_wp2
          have HXdxxxxxx := Lib.hid ((HXdxxxxx.out.sub (bs' := [(w.heap.size, 0, .int .i64 z), (w.heap.size, 1, .slice A 0 c), (wdxxx.heap.size, 0, (.int .i64 z5)), (wdxxx.heap.size, 1, (.slice A5 n5 c5))]) (rs' := [(w.heap.size, 2), (w.heap.size + 1, 2), (w.heap.size + 1 + 1, 2), (wdxx.heap.size, 2), (wdxxx.heap.size, 2)]) (is' := []) (es' := [(t5, E.tv z5 A5 n5 c5)]) (by simp) (by simp) (by simp) (by simp)).set2 (wdxx.heap.size) (.int .i64 (k1 : Int)) (.int .i64 (k2 : Int)) (by simp) (by simp only [List.mem_cons, List.not_mem_nil, or_false, forall_eq_or_imp, forall_eq]; omega) (by simp))
          clear q0 q1 q2 q3 HXdxxxxx
          refine hK.out _ _ (HXdxxxxxx.out.sub0 (by simp) (by simp)) (fun hS => ?_)
          clear hK K
          generalize (wdxxxxx.setCell ⟨wdxx.heap.size, 0, none⟩ (.int .i64 (k1 : Int))).setCell ⟨wdxx.heap.size, 1, none⟩ (.int .i64 (k2 : Int)) = wdxxxxxx at *
          try go_simp
          refine wpAnyH_done (by kernel_rfl) ?_ _
          go_wp2_with fail
          go_meet
          exact ⟨wdxxx.heap.size, wdxx.heap.size, z5, A5, n5, c5, rfl, rfl, by omega, by omega, by omega, HXdxxxxxx.out.sub (by simp) (by simp) (by simp) (by simp)⟩
      · go_simp
        go_wp2
        have HXdxx' := HXdx.out.two (.int .i64 0) (.slice none 0 0) 27
        have HXdxx := Lib.hid HXdxx'
        clear HXdxx' HXdx
        simp only [List.nil_append, List.cons_append] at HXdxx
        refine hK.out _ _ (HXdxx.out.sub0 (by simp) (by simp)) (fun hS => ?_)
        clear hK K
        have szwdxx : wdx.heap.size < (wdx.alloc (.cells #[.int .i64 0, .slice none 0 0] 27)).heap.size := by simp
        generalize wdx.alloc (.cells #[.int .i64 0, .slice none 0 0] 27) = wdxx at *
        refine wpAnyH_ready (rs := [6, 11]) (by kernel_rfl) (by simp) ?_
        refine AllReadyH.cons rfl (fun K hK => ?_) (AllReadyH.cons rfl (fun K hK => ?_) AllReadyH.nil)
        · have hcall := CAL.out wdxx (E.tv z A6 n6 c6) HXdxx.out.bel (HXdxx.out.eget (by simp))
          unfold E.tv at hcall
          go_simp
          go_wp2_with fail
          refine hcall.mono ?_
          rintro e wdxxx ⟨v5, rfl, ht5, hbx⟩
          obtain ⟨A5, n5, c5, rfl⟩ := E.InP.form ht5
          simp only at ht5 ⊢
          obtain ⟨z5, hz5⟩ : ∃ z5, t5.N = z5 := ⟨_, rfl⟩
          rw [hz5] at ht5 ⊢
          clear hz5
          have HXdxxx := Lib.hid ((HXdxx.out.next hbx).e ht5)
          have szwdxxx : wdxx.heap.size ≤ wdxxx.heap.size := hbx.size
          clear hcall ht5 hbx HXdxx
          unfold E.tv cv
          refine hK.out _ _ (HXdxxx.out.sub0 (by simp) (by simp)) (fun hS => ?_)
          clear hK K
          refine wpAnyH_take (i := 7) (v := ?_) rfl (by kernel_rfl) (by kernel_rfl) (by kernel_rfl) (fun _ _ _ h => h) (Yields.yieldsIf (Or.inl ⟨by kernel_rfl, ?_⟩)) hS ?_
          rotate_left
          · first | (intro w; go_simp; done) | (intro w; go_simp; with_reducible rfl)
          refine wpAnyH_take (i := 8) (v := ?_) rfl (by kernel_rfl) (by kernel_rfl) (by kernel_rfl) (fun _ _ _ h => h) (Yields.yieldsIf (Or.inl ⟨by kernel_rfl, ?_⟩)) hS ?_
          rotate_left
          · first | (intro w; go_simp; done) | (intro w; go_simp; with_reducible rfl)
          refine wpAnyH_take (i := 9) (v := ?_) rfl (by kernel_rfl) (by kernel_rfl) (by kernel_rfl) (fun _ _ _ h => h) (Yields.yieldsIf (Or.inl ⟨by kernel_rfl, ?_⟩)) hS ?_
          rotate_left
          · first | (intro w; go_simp; done) | (intro w; go_simp; with_reducible rfl)
          refine wpAnyH_ready (rs := [11]) (by kernel_rfl) (by simp) ?_
          refine AllReadyH.cons rfl (fun K hK => ?_) AllReadyH.nil
          go_simp
          go_wp2
          have HXdxxxx' := HXdxxx.out.two (.int .i64 0) (.int .i64 0) 57
          have HXdxxxx := Lib.hid HXdxxxx'
          clear HXdxxxx' HXdxxx
          simp only [List.nil_append, List.cons_append] at HXdxxxx
          refine hK.out _ _ (HXdxxxx.out.sub0 (by simp) (by simp)) (fun hS => ?_)
          clear hK K
          have szwdxxxx : wdxxx.heap.size < (wdxxx.alloc (.cells #[.int .i64 0, .int .i64 0] 57)).heap.size := by simp
          generalize wdxxx.alloc (.cells #[.int .i64 0, .int .i64 0] 57) = wdxxxx at *
          refine wpAnyH_ready (rs := [12]) (by kernel_rfl) (by simp) ?_
          refine AllReadyH.cons rfl (fun K hK => ?_) AllReadyH.nil
          obtain ⟨y0, y1, q0, q1, q2, q3⟩ := HXdxxxx.out.facts2 (wdx.heap.size) (by simp)
          go_simp
          go_wp2
          have HXdxxxxx := Lib.hid ((HXdxxxx.out.sub (bs' := [(w.heap.size, 0, .int .i64 z), (w.heap.size, 1, .slice A 0 c), (wdxxx.heap.size, 0, .int .i64 0), (wdxxx.heap.size, 1, .int .i64 0)]) (rs' := [(w.heap.size, 2), (w.heap.size + 1, 2), (w.heap.size + 1 + 1, 2), (wdx.heap.size, 2), (wdxxx.heap.size, 2)]) (is' := []) (es' := [(t5, E.tv z5 A5 n5 c5)]) (by simp) (by simp) (by simp) (by simp)).set2 (wdx.heap.size) (.int .i64 z5) (.slice A5 n5 c5) (by simp) (by simp only [List.mem_cons, List.not_mem_nil, or_false, forall_eq_or_imp, forall_eq]; omega) (by simp))
          clear q0 q1 q2 q3 HXdxxxx
          refine hK.out _ _ (HXdxxxxx.out.sub0 (by simp) (by simp)) (fun hS => ?_)
          clear hK K
          generalize (wdxxxx.setCell ⟨wdx.heap.size, 0, none⟩ (.int .i64 z5)).setCell ⟨wdx.heap.size, 1, none⟩ (.slice A5 n5 c5) = wdxxxxx at *
          refine wpAnyH_ready (rs := [13]) (by kernel_rfl) (by simp) ?_
          refine AllReadyH.cons rfl (fun K hK => ?_) AllReadyH.nil
          obtain ⟨y0, y1, q0, q1, q2, q3⟩ := HXdxxxxx.out.facts2 (wdxxx.heap.size) (by simp)
          go_simp
          go_wp2
          have HXdxxxxxx := Lib.hid ((HXdxxxxx.out.sub (bs' := [(w.heap.size, 0, .int .i64 z), (w.heap.size, 1, .slice A 0 c), (wdx.heap.size, 0, (.int .i64 z5)), (wdx.heap.size, 1, (.slice A5 n5 c5))]) (rs' := [(w.heap.size, 2), (w.heap.size + 1, 2), (w.heap.size + 1 + 1, 2), (wdx.heap.size, 2), (wdxxx.heap.size, 2)]) (is' := []) (es' := [(t5, E.tv z5 A5 n5 c5)]) (by simp) (by simp) (by simp) (by simp)).set2 (wdxxx.heap.size) (.int .i64 (k1 : Int)) (.int .i64 (k2 : Int)) (by simp) (by simp only [List.mem_cons, List.not_mem_nil, or_false, forall_eq_or_imp, forall_eq]; omega) (by simp))
          clear q0 q1 q2 q3 HXdxxxxx
          refine hK.out _ _ (HXdxxxxxx.out.sub0 (by simp) (by simp)) (fun hS => ?_)
          clear hK K
          generalize (wdxxxxx.setCell ⟨wdxxx.heap.size, 0, none⟩ (.int .i64 (k1 : Int))).setCell ⟨wdxxx.heap.size, 1, none⟩ (.int .i64 (k2 : Int)) = wdxxxxxx at *
          try go_simp
          refine wpAnyH_done (by kernel_rfl) ?_ _
          go_wp2_with fail
          go_meet
          exact ⟨wdx.heap.size, wdxxx.heap.size, z5, A5, n5, c5, rfl, rfl, by omega, by omega, by omega, HXdxxxxxx.out.sub (by simp) (by simp) (by simp) (by simp)⟩
        · go_simp
          go_wp2
          have HXdxxx' := HXdxx.out.two (.int .i64 0) (.int .i64 0) 57
          have HXdxxx := Lib.hid HXdxxx'
          clear HXdxxx' HXdxx
          simp only [List.nil_append, List.cons_append] at HXdxxx
          refine hK.out _ _ (HXdxxx.out.sub0 (by simp) (by simp)) (fun hS => ?_)
          clear hK K
          have szwdxxx : wdxx.heap.size < (wdxx.alloc (.cells #[.int .i64 0, .int .i64 0] 57)).heap.size := by simp
          generalize wdxx.alloc (.cells #[.int .i64 0, .int .i64 0] 57) = wdxxx at *
          refine wpAnyH_ready (rs := [6]) (by kernel_rfl) (by simp) ?_
          refine AllReadyH.cons rfl (fun K hK => ?_) AllReadyH.nil
          have hcall := CAL.out wdxxx (E.tv z A6 n6 c6) HXdxxx.out.bel (HXdxxx.out.eget (by simp))
          unfold E.tv at hcall
          go_simp
          go_wp2_with fail
          refine hcall.mono ?_
          rintro e wdxxxx ⟨v5, rfl, ht5, hbx⟩
          obtain ⟨A5, n5, c5, rfl⟩ := E.InP.form ht5
          simp only at ht5 ⊢
          obtain ⟨z5, hz5⟩ : ∃ z5, t5.N = z5 := ⟨_, rfl⟩
          rw [hz5] at ht5 ⊢
          clear hz5
          have HXdxxxx := Lib.hid ((HXdxxx.out.next hbx).e ht5)
          have szwdxxxx : wdxxx.heap.size ≤ wdxxxx.heap.size := hbx.size
          clear hcall ht5 hbx HXdxxx
          unfold E.tv cv
          refine hK.out _ _ (HXdxxxx.out.sub0 (by simp) (by simp)) (fun hS => ?_)
          clear hK K
          refine wpAnyH_take (i := 7) (v := ?_) rfl (by kernel_rfl) (by kernel_rfl) (by kernel_rfl) (fun _ _ _ h => h) (Yields.yieldsIf (Or.inl ⟨by kernel_rfl, ?_⟩)) hS ?_
          rotate_left
          · first | (intro w; go_simp; done) | (intro w; go_simp; with_reducible rfl)
          refine wpAnyH_take (i := 8) (v := ?_) rfl (by kernel_rfl) (by kernel_rfl) (by kernel_rfl) (fun _ _ _ h => h) (Yields.yieldsIf (Or.inl ⟨by kernel_rfl, ?_⟩)) hS ?_
          rotate_left
          · first | (intro w; go_simp; done) | (intro w; go_simp; with_reducible rfl)
          refine wpAnyH_take (i := 9) (v := ?_) rfl (by kernel_rfl) (by kernel_rfl) (by kernel_rfl) (fun _ _ _ h => h) (Yields.yieldsIf (Or.inl ⟨by kernel_rfl, ?_⟩)) hS ?_
          rotate_left
          · first | (intro w; go_simp; done) | (intro w; go_simp; with_reducible rfl)
          refine wpAnyH_ready (rs := [12]) (by kernel_rfl) (by simp) ?_
          refine AllReadyH.cons rfl (fun K hK => ?_) AllReadyH.nil
          obtain ⟨y0, y1, q0, q1, q2, q3⟩ := HXdxxxx.out.facts2 (wdx.heap.size) (by simp)
          go_simp
          go_wp2
          have HXdxxxxx := Lib.hid ((HXdxxxx.out.sub (bs' := [(w.heap.size, 0, .int .i64 z), (w.heap.size, 1, .slice A 0 c), (wdxx.heap.size, 0, .int .i64 0), (wdxx.heap.size, 1, .int .i64 0)]) (rs' := [(w.heap.size, 2), (w.heap.size + 1, 2), (w.heap.size + 1 + 1, 2), (wdx.heap.size, 2), (wdxx.heap.size, 2)]) (is' := []) (es' := [(t5, E.tv z5 A5 n5 c5)]) (by simp) (by simp) (by simp) (by simp)).set2 (wdx.heap.size) (.int .i64 z5) (.slice A5 n5 c5) (by simp) (by simp only [List.mem_cons, List.not_mem_nil, or_false, forall_eq_or_imp, forall_eq]; omega) (by simp))
          clear q0 q1 q2 q3 HXdxxxx
          refine hK.out _ _ (HXdxxxxx.out.sub0 (by simp) (by simp)) (fun hS => ?_)
          clear hK K
          generalize (wdxxxx.setCell ⟨wdx.heap.size, 0, none⟩ (.int .i64 z5)).setCell ⟨wdx.heap.size, 1, none⟩ (.slice A5 n5 c5) = wdxxxxx at *
          refine wpAnyH_ready (rs := [13]) (by kernel_rfl) (by simp) ?_
          refine AllReadyH.cons rfl (fun K hK => ?_) AllReadyH.nil
          obtain ⟨y0, y1, q0, q1, q2, q3⟩ := HXdxxxxx.out.facts2 (wdxx.heap.size) (by simp)
          go_simp
          go_wp2
          have HXdxxxxxx := Lib.hid ((HXdxxxxx.out.sub (bs' := [(w.heap.size, 0, .int .i64 z), (w.heap.size, 1, .slice A 0 c), (wdx.heap.size, 0, (.int .i64 z5)), (wdx.heap.size, 1, (.slice A5 n5 c5))]) (rs' := [(w.heap.size, 2), (w.heap.size + 1, 2), (w.heap.size + 1 + 1, 2), (wdx.heap.size, 2), (wdxx.heap.size, 2)]) (is' := []) (es' := [(t5, E.tv z5 A5 n5 c5)]) (by simp) (by simp) (by simp) (by simp)).set2 (wdxx.heap.size) (.int .i64 (k1 : Int)) (.int .i64 (k2 : Int)) (by simp) (by simp only [List.mem_cons, List.not_mem_nil, or_false, forall_eq_or_imp, forall_eq]; omega) (by simp))
          clear q0 q1 q2 q3 HXdxxxxx
          refine hK.out _ _ (HXdxxxxxx.out.sub0 (by simp) (by simp)) (fun hS => ?_)
          clear hK K
          generalize (wdxxxxx.setCell ⟨wdxx.heap.size, 0, none⟩ (.int .i64 (k1 : Int))).setCell ⟨wdxx.heap.size, 1, none⟩ (.int .i64 (k2 : Int)) = wdxxxxxx at *
          try go_simp
          refine wpAnyH_done (by kernel_rfl) ?_ _
          go_wp2_with fail
          go_meet
          exact ⟨wdx.heap.size, wdxx.heap.size, z5, A5, n5, c5, rfl, rfl, by omega, by omega, by omega, HXdxxxxxx.out.sub (by simp) (by simp) (by simp) (by simp)⟩
      · go_simp
        go_wp2
        have HXdxx' := HXdx.out.two (.int .i64 0) (.int .i64 0) 57
        have HXdxx := Lib.hid HXdxx'
        clear HXdxx' HXdx
        simp only [List.nil_append, List.cons_append] at HXdxx
        refine hK.out _ _ (HXdxx.out.sub0 (by simp) (by simp)) (fun hS => ?_)
        clear hK K
        have szwdxx : wdx.heap.size < (wdx.alloc (.cells #[.int .i64 0, .int .i64 0] 57)).heap.size := by simp
        generalize wdx.alloc (.cells #[.int .i64 0, .int .i64 0] 57) = wdxx at *
        refine wpAnyH_ready (rs := [6, 10]) (by kernel_rfl) (by simp) ?_
        refine AllReadyH.cons rfl (fun K hK => ?_) (AllReadyH.cons rfl (fun K hK => ?_) AllReadyH.nil)
        · have hcall := CAL.out wdxx (E.tv z A6 n6 c6) HXdxx.out.bel (HXdxx.out.eget (by simp))
          unfold E.tv at hcall
          go_simp
          go_wp2_with fail
          refine hcall.mono ?_
          rintro e wdxxx ⟨v5, rfl, ht5, hbx⟩
          obtain ⟨A5, n5, c5, rfl⟩ := E.InP.form ht5
          simp only at ht5 ⊢
          obtain ⟨z5, hz5⟩ : ∃ z5, t5.N = z5 := ⟨_, rfl⟩
          rw [hz5] at ht5 ⊢
          clear hz5
          have HXdxxx := Lib.hid ((HXdxx.out.next hbx).e ht5)
          have szwdxxx : wdxx.heap.size ≤ wdxxx.heap.size := hbx.size
          clear hcall ht5 hbx HXdxx
          unfold E.tv cv
          refine hK.out _ _ (HXdxxx.out.sub0 (by simp) (by simp)) (fun hS => ?_)
          clear hK K
          refine wpAnyH_take (i := 7) (v := ?_) rfl (by kernel_rfl) (by kernel_rfl) (by kernel_rfl) (fun _ _ _ h => h) (Yields.yieldsIf (Or.inl ⟨by kernel_rfl, ?_⟩)) hS ?_
          rotate_left
          · first | (intro w; go_simp; done) | (intro w; go_simp; with_reducible rfl)
          refine wpAnyH_take (i := 8) (v := ?_) rfl (by kernel_rfl) (by kernel_rfl) (by kernel_rfl) (fun _ _ _ h => h) (Yields.yieldsIf (Or.inl ⟨by kernel_rfl, ?_⟩)) hS ?_
          rotate_left
          · first | (intro w; go_simp; done) | (intro w; go_simp; with_reducible rfl)
          refine wpAnyH_take (i := 9) (v := ?_) rfl (by kernel_rfl) (by kernel_rfl) (by kernel_rfl) (fun _ _ _ h => h) (Yields.yieldsIf (Or.inl ⟨by kernel_rfl, ?_⟩)) hS ?_
          rotate_left
          · first | (intro w; go_simp; done) | (intro w; go_simp; with_reducible rfl)
          refine wpAnyH_ready (rs := [10]) (by kernel_rfl) (by simp) ?_
          refine AllReadyH.cons rfl (fun K hK => ?_) AllReadyH.nil
          go_simp
          go_wp2
          have HXdxxxx' := HXdxxx.out.two (.int .i64 0) (.slice none 0 0) 27
          have HXdxxxx := Lib.hid HXdxxxx'
          clear HXdxxxx' HXdxxx
          simp only [List.nil_append, List.cons_append] at HXdxxxx
          refine hK.out _ _ (HXdxxxx.out.sub0 (by simp) (by simp)) (fun hS => ?_)
          clear hK K
          have szwdxxxx : wdxxx.heap.size < (wdxxx.alloc (.cells #[.int .i64 0, .slice none 0 0] 27)).heap.size := by simp
          generalize wdxxx.alloc (.cells #[.int .i64 0, .slice none 0 0] 27) = wdxxxx at *
          refine wpAnyH_ready (rs := [12]) (by kernel_rfl) (by simp) ?_
          refine AllReadyH.cons rfl (fun K hK => ?_) AllReadyH.nil
          obtain ⟨y0, y1, q0, q1, q2, q3⟩ := HXdxxxx.out.facts2 (wdxxx.heap.size) (by simp)
          go_simp
          go_wp2
          have HXdxxxxx := Lib.hid ((HXdxxxx.out.sub (bs' := [(w.heap.size, 0, .int .i64 z), (w.heap.size, 1, .slice A 0 c), (wdx.heap.size, 0, .int .i64 0), (wdx.heap.size, 1, .int .i64 0)]) (rs' := [(w.heap.size, 2), (w.heap.size + 1, 2), (w.heap.size + 1 + 1, 2), (wdx.heap.size, 2), (wdxxx.heap.size, 2)]) (is' := []) (es' := [(t5, E.tv z5 A5 n5 c5)]) (by simp) (by simp) (by simp) (by simp)).set2 (wdxxx.heap.size) (.int .i64 z5) (.slice A5 n5 c5) (by simp) (by simp only [List.mem_cons, List.not_mem_nil, or_false, forall_eq_or_imp, forall_eq]; omega) (by simp))
          clear q0 q1 q2 q3 HXdxxxx
          refine hK.out _ _ (HXdxxxxx.out.sub0 (by simp) (by simp)) (fun hS => ?_)
          clear hK K
          generalize (wdxxxx.setCell ⟨wdxxx.heap.size, 0, none⟩ (.int .i64 z5)).setCell ⟨wdxxx.heap.size, 1, none⟩ (.slice A5 n5 c5) = wdxxxxx at *
          refine wpAnyH_ready (rs := [13]) (by kernel_rfl) (by simp) ?_
          refine AllReadyH.cons rfl (fun K hK => ?_) AllReadyH.nil
          obtain ⟨y0, y1, q0, q1, q2, q3⟩ := HXdxxxxx.out.facts2 (wdx.heap.size) (by simp)
          go_simp
          go_wp2
          have HXdxxxxxx := Lib.hid ((HXdxxxxx.out.sub (bs' := [(w.heap.size, 0, .int .i64 z), (w.heap.size, 1, .slice A 0 c), (wdxxx.heap.size, 0, (.int .i64 z5)), (wdxxx.heap.size, 1, (.slice A5 n5 c5))]) (rs' := [(w.heap.size, 2), (w.heap.size + 1, 2), (w.heap.size + 1 + 1, 2), (wdx.heap.size, 2), (wdxxx.heap.size, 2)]) (is' := []) (es' := [(t5, E.tv z5 A5 n5 c5)]) (by simp) (by simp) (by simp) (by simp)).set2 (wdx.heap.size) (.int .i64 (k1 : Int)) (.int .i64 (k2 : Int)) (by simp) (by simp only [List.mem_cons, List.not_mem_nil, or_false, forall_eq_or_imp, forall_eq]; omega) (by simp))
          clear q0 q1 q2 q3 HXdxxxxx
          refine hK.out _ _ (HXdxxxxxx.out.sub0 (by simp) (by simp)) (fun hS => ?_)
          clear hK K
          generalize (wdxxxxx.setCell ⟨wdx.heap.size, 0, none⟩ (.int .i64 (k1 : Int))).setCell ⟨wdx.heap.size, 1, none⟩ (.int .i64 (k2 : Int)) = wdxxxxxx at *
          try go_simp
          refine wpAnyH_done (by kernel_rfl) ?_ _
          go_wp2_with fail
          go_meet
          exact ⟨wdxxx.heap.size, wdx.heap.size, z5, A5, n5, c5, rfl, rfl, by omega, by omega, by omega, HXdxxxxxx.out.sub (by simp) (by simp) (by simp) (by simp)⟩
        · go_simp
          go_wp2
          have HXdxxx' := HXdxx.out.two (.int .i64 0) (.slice none 0 0) 27
          have HXdxxx := Lib.hid HXdxxx'
          clear HXdxxx' HXdxx
          simp only [List.nil_append, List.cons_append] at HXdxxx
          refine hK.out _ _ (HXdxxx.out.sub0 (by simp) (by simp)) (fun hS => ?_)
          clear hK K
          have szwdxxx : wdxx.heap.size < (wdxx.alloc (.cells #[.int .i64 0, .slice none 0 0] 27)).heap.size := by simp
          generalize wdxx.alloc (.cells #[.int .i64 0, .slice none 0 0] 27) = wdxxx at *
          refine wpAnyH_ready (rs := [6]) (by kernel_rfl) (by simp) ?_
          refine AllReadyH.cons rfl (fun K hK => ?_) AllReadyH.nil
          have hcall := CAL.out wdxxx (E.tv z A6 n6 c6) HXdxxx.out.bel (HXdxxx.out.eget (by simp))
          unfold E.tv at hcall
          go_simp
          go_wp2_with fail
          refine hcall.mono ?_
          rintro e wdxxxx ⟨v5, rfl, ht5, hbx⟩
          obtain ⟨A5, n5, c5, rfl⟩ := E.InP.form ht5
          simp only at ht5 ⊢
          obtain ⟨z5, hz5⟩ : ∃ z5, t5.N = z5 := ⟨_, rfl⟩
          rw [hz5] at ht5 ⊢
          clear hz5
          have HXdxxxx := Lib.hid ((HXdxxx.out.next hbx).e ht5)
          have szwdxxxx : wdxxx.heap.size ≤ wdxxxx.heap.size := hbx.size
          clear hcall ht5 hbx HXdxxx
          unfold E.tv cv
          refine hK.out _ _ (HXdxxxx.out.sub0 (by simp) (by simp)) (fun hS => ?_)
          clear hK K
          refine wpAnyH_take (i := 7) (v := ?_) rfl (by kernel_rfl) (by kernel_rfl) (by kernel_rfl) (fun _ _ _ h => h) (Yields.yieldsIf (Or.inl ⟨by kernel_rfl, ?_⟩)) hS ?_
          rotate_left
          · first | (intro w; go_simp; done) | (intro w; go_simp; with_reducible rfl)
          refine wpAnyH_take (i := 8) (v := ?_) rfl (by kernel_rfl) (by kernel_rfl) (by kernel_rfl) (fun _ _ _ h => h) (Yields.yieldsIf (Or.inl ⟨by kernel_rfl, ?_⟩)) hS ?_
          rotate_left
          · first | (intro w; go_simp; done) | (intro w; go_simp; with_reducible rfl)
          refine wpAnyH_take (i := 9) (v := ?_) rfl (by kernel_rfl) (by kernel_rfl) (by kernel_rfl) (fun _ _ _ h => h) (Yields.yieldsIf (Or.inl ⟨by kernel_rfl, ?_⟩)) hS ?_
          rotate_left
          · first | (intro w; go_simp; done) | (intro w; go_simp; with_reducible rfl)
          refine wpAnyH_ready (rs := [12]) (by kernel_rfl) (by simp) ?_
          refine AllReadyH.cons rfl (fun K hK => ?_) AllReadyH.nil
          obtain ⟨y0, y1, q0, q1, q2, q3⟩ := HXdxxxx.out.facts2 (wdxx.heap.size) (by simp)
          go_simp
          go_wp2
          have HXdxxxxx := Lib.hid ((HXdxxxx.out.sub (bs' := [(w.heap.size, 0, .int .i64 z), (w.heap.size, 1, .slice A 0 c), (wdx.heap.size, 0, .int .i64 0), (wdx.heap.size, 1, .int .i64 0)]) (rs' := [(w.heap.size, 2), (w.heap.size + 1, 2), (w.heap.size + 1 + 1, 2), (wdx.heap.size, 2), (wdxx.heap.size, 2)]) (is' := []) (es' := [(t5, E.tv z5 A5 n5 c5)]) (by simp) (by simp) (by simp) (by simp)).set2 (wdxx.heap.size) (.int .i64 z5) (.slice A5 n5 c5) (by simp) (by simp only [List.mem_cons, List.not_mem_nil, or_false, forall_eq_or_imp, forall_eq]; omega) (by simp))
          clear q0 q1 q2 q3 HXdxxxx
          refine hK.out _ _ (HXdxxxxx.out.sub0 (by simp) (by simp)) (fun hS => ?_)
          clear hK K
          generalize (wdxxxx.setCell ⟨wdxx.heap.size, 0, none⟩ (.int .i64 z5)).setCell ⟨wdxx.heap.size, 1, none⟩ (.slice A5 n5 c5) = wdxxxxx at *
          refine wpAnyH_ready (rs := [13]) (by kernel_rfl) (by simp) ?_
          refine AllReadyH.cons rfl (fun K hK => ?_) AllReadyH.nil
          obtain ⟨y0, y1, q0, q1, q2, q3⟩ := HXdxxxxx.out.facts2 (wdx.heap.size) (by simp)
          go_simp
          go_wp2
          have HXdxxxxxx := Lib.hid ((HXdxxxxx.out.sub (bs' := [(w.heap.size, 0, .int .i64 z), (w.heap.size, 1, .slice A 0 c), (wdxx.heap.size, 0, (.int .i64 z5)), (wdxx.heap.size, 1, (.slice A5 n5 c5))]) (rs' := [(w.heap.size, 2), (w.heap.size + 1, 2), (w.heap.size + 1 + 1, 2), (wdx.heap.size, 2), (wdxx.heap.size, 2)]) (is' := []) (es' := [(t5, E.tv z5 A5 n5 c5)]) (by simp) (by simp) (by simp) (by simp)).set2 (wdx.heap.size) (.int .i64 (k1 : Int)) (.int .i64 (k2 : Int)) (by simp) (by simp only [List.mem_cons, List.not_mem_nil, or_false, forall_eq_or_imp, forall_eq]; omega) (by simp))
          clear q0 q1 q2 q3 HXdxxxxx
          refine hK.out _ _ (HXdxxxxxx.out.sub0 (by simp) (by simp)) (fun hS => ?_)
          clear hK K
          generalize (wdxxxxx.setCell ⟨wdx.heap.size, 0, none⟩ (.int .i64 (k1 : Int))).setCell ⟨wdx.heap.size, 1, none⟩ (.int .i64 (k2 : Int)) = wdxxxxxx at *
          try go_simp
          refine wpAnyH_done (by kernel_rfl) ?_ _
          go_wp2_with fail
          go_meet
          exact ⟨wdxx.heap.size, wdx.heap.size, z5, A5, n5, c5, rfl, rfl, by omega, by omega, by omega, HXdxxxxxx.out.sub (by simp) (by simp) (by simp) (by simp)⟩
    · go_simp
      go_wp2
      have HXdx' := HXd.out.two (.int .i64 0) (.slice none 0 0) 27
      have HXdx := Lib.hid HXdx'
      clear HXdx' HXd
      simp only [List.nil_append, List.cons_append] at HXdx
      refine hK.out _ _ (HXdx.out.sub0 (by simp) (by simp)) (fun hS => ?_)
      clear hK K
      have szwdx : wd.heap.size < (wd.alloc (.cells #[.int .i64 0, .slice none 0 0] 27)).heap.size := by simp
      generalize wd.alloc (.cells #[.int .i64 0, .slice none 0 0] 27) = wdx at *
      refine wpAnyH_ready (rs := [5, 11]) (by kernel_rfl) (by simp) ?_
      refine AllReadyH.cons rfl (fun K hK => ?_) (AllReadyH.cons rfl (fun K hK => ?_) AllReadyH.nil)
      · have hcall := snode_any z (.leaf 0) (.leaf 0) (E.tv 0 none 0 0) (E.tv 0 none 0 0) wdx ⟨none, 0, rfl⟩ ⟨none, 0, rfl⟩
        unfold E.tv at hcall
        go_simp
        go_wp2_with fail
        refine hcall.mono ?_
        rintro e wdxx ⟨v6, rfl, ht6, hbx⟩
        obtain ⟨A6, n6, c6, rfl⟩ := E.InP.form ht6
        simp only [E.Tr.N] at ht6 ⊢
        have HXdxx := Lib.hid ((HXdx.out.next hbx).e ht6)
        have szwdxx : wdx.heap.size ≤ wdxx.heap.size := hbx.size
        clear hcall ht6 hbx HXdx
        unfold E.tv
        refine hK.out _ _ (HXdxx.out.sub0 (by simp) (by simp)) (fun hS => ?_)
        clear hK K
        refine wpAnyH_ready (rs := [6, 11]) (by kernel_rfl) (by simp) ?_
        refine AllReadyH.cons rfl (fun K hK => ?_) (AllReadyH.cons rfl (fun K hK => ?_) AllReadyH.nil)
        · have hcall := CAL.out wdxx (E.tv z A6 n6 c6) HXdxx.out.bel (HXdxx.out.eget (by simp))
          unfold E.tv at hcall
          go_simp
          go_wp2_with fail
          refine hcall.mono ?_
          rintro e wdxxx ⟨v5, rfl, ht5, hbx⟩
          obtain ⟨A5, n5, c5, rfl⟩ := E.InP.form ht5
          simp only at ht5 ⊢
          obtain ⟨z5, hz5⟩ : ∃ z5, t5.N = z5 := ⟨_, rfl⟩
          rw [hz5] at ht5 ⊢
          clear hz5
          have HXdxxx := Lib.hid ((HXdxx.out.next hbx).e ht5)
          have szwdxxx : wdxx.heap.size ≤ wdxxx.heap.size := hbx.size
          clear hcall ht5 hbx HXdxx
          unfold E.tv cv
          refine hK.out _ _ (HXdxxx.out.sub0 (by simp) (by simp)) (fun hS => ?_)
          clear hK K
          refine wpAnyH_take (i := 7) (v := ?_) rfl (by kernel_rfl) (by kernel_rfl) (by kernel_rfl) (fun _ _ _ h => h) (Yields.yieldsIf (Or.inl ⟨by kernel_rfl, ?_⟩)) hS ?_
          rotate_left
          · first | (intro w; go_simp; done) | (intro w; go_simp; with_reducible rfl)
          refine wpAnyH_take (i := 8) (v := ?_) rfl (by kernel_rfl) (by kernel_rfl) (by kernel_rfl) (fun _ _ _ h => h) (Yields.yieldsIf (Or.inl ⟨by kernel_rfl, ?_⟩)) hS ?_
          rotate_left
          · first | (intro w; go_simp; done) | (intro w; go_simp; with_reducible rfl)
          refine wpAnyH_take (i := 9) (v := ?_) rfl (by kernel_rfl) (by kernel_rfl) (by kernel_rfl) (fun _ _ _ h => h) (Yields.yieldsIf (Or.inl ⟨by kernel_rfl, ?_⟩)) hS ?_
          rotate_left
          · first | (intro w; go_simp; done) | (intro w; go_simp; with_reducible rfl)
          refine wpAnyH_ready (rs := [11]) (by kernel_rfl) (by simp) ?_
          refine AllReadyH.cons rfl (fun K hK => ?_) AllReadyH.nil
          go_simp
          go_wp2
          have HXdxxxx' := HXdxxx.out.two (.int .i64 0) (.int .i64 0) 57
          have HXdxxxx := Lib.hid HXdxxxx'
          clear HXdxxxx' HXdxxx
          simp only [List.nil_append, List.cons_append] at HXdxxxx
          refine hK.out _ _ (HXdxxxx.out.sub0 (by simp) (by simp)) (fun hS => ?_)
          clear hK K
          have szwdxxxx : wdxxx.heap.size < (wdxxx.alloc (.cells #[.int .i64 0, .int .i64 0] 57)).heap.size := by simp
          generalize wdxxx.alloc (.cells #[.int .i64 0, .int .i64 0] 57) = wdxxxx at *
          refine wpAnyH_ready (rs := [12]) (by kernel_rfl) (by simp) ?_
          refine AllReadyH.cons rfl (fun K hK => ?_) AllReadyH.nil
          obtain ⟨y0, y1, q0, q1, q2, q3⟩ := HXdxxxx.out.facts2 (wd.heap.size) (by simp)
          go_simp
          go_wp2
          have HXdxxxxx := Lib.hid ((HXdxxxx.out.sub (bs' := [(w.heap.size, 0, .int .i64 z), (w.heap.size, 1, .slice A 0 c), (wdxxx.heap.size, 0, .int .i64 0), (wdxxx.heap.size, 1, .int .i64 0)]) (rs' := [(w.heap.size, 2), (w.heap.size + 1, 2), (w.heap.size + 1 + 1, 2), (wd.heap.size, 2), (wdxxx.heap.size, 2)]) (is' := []) (es' := [(t5, E.tv z5 A5 n5 c5)]) (by simp) (by simp) (by simp) (by simp)).set2 (wd.heap.size) (.int .i64 z5) (.slice A5 n5 c5) (by simp) (by simp only [List.mem_cons, List.not_mem_nil, or_false, forall_eq_or_imp, forall_eq]; omega) (by simp))
          clear q0 q1 q2 q3 HXdxxxx
          refine hK.out _ _ (HXdxxxxx.out.sub0 (by simp) (by simp)) (fun hS => ?_)
          clear hK K
          generalize (wdxxxx.setCell ⟨wd.heap.size, 0, none⟩ (.int .i64 z5)).setCell ⟨wd.heap.size, 1, none⟩ (.slice A5 n5 c5) = wdxxxxx at *
          refine wpAnyH_ready (rs := [13]) (by kernel_rfl) (by simp) ?_
          refine AllReadyH.cons rfl (fun K hK => ?_) AllReadyH.nil
          obtain ⟨y0, y1, q0, q1, q2, q3⟩ := HXdxxxxx.out.facts2 (wdxxx.heap.size) (by simp)
          go_simp
          go_wp2
          have HXdxxxxxx := Lib.hid ((HXdxxxxx.out.sub (bs' := [(w.heap.size, 0, .int .i64 z), (w.heap.size, 1, .slice A 0 c), (wd.heap.size, 0, (.int .i64 z5)), (wd.heap.size, 1, (.slice A5 n5 c5))]) (rs' := [(w.heap.size, 2), (w.heap.size + 1, 2), (w.heap.size + 1 + 1, 2), (wd.heap.size, 2), (wdxxx.heap.size, 2)]) (is' := []) (es' := [(t5, E.tv z5 A5 n5 c5)]) (by simp) (by simp) (by simp) (by simp)).set2 (wdxxx.heap.size) (.int .i64 (k1 : Int)) (.int .i64 (k2 : Int)) (by simp) (by simp only [List.mem_cons, List.not_mem_nil, or_false, forall_eq_or_imp, forall_eq]; omega) (by simp))
          clear q0 q1 q2 q3 HXdxxxxx
          refine hK.out _ _ (HXdxxxxxx.out.sub0 (by simp) (by simp)) (fun hS => ?_)
          clear hK K
          generalize (wdxxxxx.setCell ⟨wdxxx.heap.size, 0, none⟩ (.int .i64 (k1 : Int))).setCell ⟨wdxxx.heap.size, 1, none⟩ (.int .i64 (k2 : Int)) = wdxxxxxx at *
          try go_simp
          refine wpAnyH_done (by kernel_rfl) ?_ _
          go_wp2_with fail
          go_meet
          exact ⟨wd.heap.size, wdxxx.heap.size, z5, A5, n5, c5, rfl, rfl, by omega, by omega, by omega, HXdxxxxxx.out.sub (by simp) (by simp) (by simp) (by simp)⟩
        · go_simp
          go_wp2
          have HXdxxx' := HXdxx.out.two (.int .i64 0) (.int .i64 0) 57
          have HXdxxx := Lib.hid HXdxxx'
          clear HXdxxx' HXdxx
          simp only [List.nil_append, List.cons_append] at HXdxxx
          refine hK.out _ _ (HXdxxx.out.sub0 (by simp) (by simp)) (fun hS => ?_)
          clear hK K
          have szwdxxx : wdxx.heap.size < (wdxx.alloc (.cells #[.int .i64 0, .int .i64 0] 57)).heap.size := by simp
          generalize wdxx.alloc (.cells #[.int .i64 0, .int .i64 0] 57) = wdxxx at *
          refine wpAnyH_ready (rs := [6]) (by kernel_rfl) (by simp) ?_
          refine AllReadyH.cons rfl (fun K hK => ?_) AllReadyH.nil
          have hcall := CAL.out wdxxx (E.tv z A6 n6 c6) HXdxxx.out.bel (HXdxxx.out.eget (by simp))
          unfold E.tv at hcall
          go_simp
          go_wp2_with fail
          refine hcall.mono ?_
          rintro e wdxxxx ⟨v5, rfl, ht5, hbx⟩
          obtain ⟨A5, n5, c5, rfl⟩ := E.InP.form ht5
          simp only at ht5 ⊢
          obtain ⟨z5, hz5⟩ : ∃ z5, t5.N = z5 := ⟨_, rfl⟩
          rw [hz5] at ht5 ⊢
          clear hz5
          have HXdxxxx := Lib.hid ((HXdxxx.out.next hbx).e ht5)
          have szwdxxxx : wdxxx.heap.size ≤ wdxxxx.heap.size := hbx.size
          clear hcall ht5 hbx HXdxxx
          unfold E.tv cv
          refine hK.out _ _ (HXdxxxx.out.sub0 (by simp) (by simp)) (fun hS => ?_)
          clear hK K
          refine wpAnyH_take (i := 7) (v := ?_) rfl (by kernel_rfl) (by kernel_rfl) (by kernel_rfl) (fun _ _ _ h => h) (Yields.yieldsIf (Or.inl ⟨by kernel_rfl, ?_⟩)) hS ?_
          rotate_left
          · first | (intro w; go_simp; done) | (intro w; go_simp; with_reducible rfl)
          refine wpAnyH_take (i := 8) (v := ?_) rfl (by kernel_rfl) (by kernel_rfl) (by kernel_rfl) (fun _ _ _ h => h) (Yields.yieldsIf (Or.inl ⟨by kernel_rfl, ?_⟩)) hS ?_
          rotate_left
          · first | (intro w; go_simp; done) | (intro w; go_simp; with_reducible rfl)
          refine wpAnyH_take (i := 9) (v := ?_) rfl (by kernel_rfl) (by kernel_rfl) (by kernel_rfl) (fun _ _ _ h => h) (Yields.yieldsIf (Or.inl ⟨by kernel_rfl, ?_⟩)) hS ?_
          rotate_left
          · first | (intro w; go_simp; done) | (intro w; go_simp; with_reducible rfl)
          refine wpAnyH_ready (rs := [12]) (by kernel_rfl) (by simp) ?_
          refine AllReadyH.cons rfl (fun K hK => ?_) AllReadyH.nil
          obtain ⟨y0, y1, q0, q1, q2, q3⟩ := HXdxxxx.out.facts2 (wd.heap.size) (by simp)
          go_simp
          go_wp2
          have HXdxxxxx := Lib.hid ((HXdxxxx.out.sub (bs' := [(w.heap.size, 0, .int .i64 z), (w.heap.size, 1, .slice A 0 c), (wdxx.heap.size, 0, .int .i64 0), (wdxx.heap.size, 1, .int .i64 0)]) (rs' := [(w.heap.size, 2), (w.heap.size + 1, 2), (w.heap.size + 1 + 1, 2), (wd.heap.size, 2), (wdxx.heap.size, 2)]) (is' := []) (es' := [(t5, E.tv z5 A5 n5 c5)]) (by simp) (by simp) (by simp) (by simp)).set2 (wd.heap.size) (.int .i64 z5) (.slice A5 n5 c5) (by simp) (by simp only [List.mem_cons, List.not_mem_nil, or_false, forall_eq_or_imp, forall_eq]; omega) (by simp))
          clear q0 q1 q2 q3 HXdxxxx
          refine hK.out _ _ (HXdxxxxx.out.sub0 (by simp) (by simp)) (fun hS => ?_)
          clear hK K
          generalize (wdxxxx.setCell ⟨wd.heap.size, 0, none⟩ (.int .i64 z5)).setCell ⟨wd.heap.size, 1, none⟩ (.slice A5 n5 c5) = wdxxxxx at *
          refine wpAnyH_ready (rs := [13]) (by kernel_rfl) (by simp) ?_
          refine AllReadyH.cons rfl (fun K hK => ?_) AllReadyH.nil
          obtain ⟨y0, y1, q0, q1, q2, q3⟩ := HXdxxxxx.out.facts2 (wdxx.heap.size) (by simp)
          go_simp
          go_wp2
          have HXdxxxxxx := Lib.hid ((HXdxxxxx.out.sub (bs' := [(w.heap.size, 0, .int .i64 z), (w.heap.size, 1, .slice A 0 c), (wd.heap.size, 0, (.int .i64 z5)), (wd.heap.size, 1, (.slice A5 n5 c5))]) (rs' := [(w.heap.size, 2), (w.heap.size + 1, 2), (w.heap.size + 1 + 1, 2), (wd.heap.size, 2), (wdxx.heap.size, 2)]) (is' := []) (es' := [(t5, E.tv z5 A5 n5 c5)]) (by simp) (by simp) (by simp) (by simp)).set2 (wdxx.heap.size) (.int .i64 (k1 : Int)) (.int .i64 (k2 : Int)) (by simp) (by simp only [List.mem_cons, List.not_mem_nil, or_false, forall_eq_or_imp, forall_eq]; omega) (by simp))
          clear q0 q1 q2 q3 HXdxxxxx
          refine hK.out _ _ (HXdxxxxxx.out.sub0 (by simp) (by simp)) (fun hS => ?_)
          clear hK K
          generalize (wdxxxxx.setCell ⟨wdxx.heap.size, 0, none⟩ (.int .i64 (k1 : Int))).setCell ⟨wdxx.heap.size, 1, none⟩ (.int .i64 (k2 : Int)) = wdxxxxxx at *
          try go_simp
          refine wpAnyH_done (by kernel_rfl) ?_ _
          go_wp2_with fail
          go_meet
          exact ⟨wd.heap.size, wdxx.heap.size, z5, A5, n5, c5, rfl, rfl, by omega, by omega, by omega, HXdxxxxxx.out.sub (by simp) (by simp) (by simp) (by simp)⟩
      · go_simp
        go_wp2
        have HXdxx' := HXdx.out.two (.int .i64 0) (.int .i64 0) 57
        have HXdxx := Lib.hid HXdxx'
        clear HXdxx' HXdx
        simp only [List.nil_append, List.cons_append] at HXdxx
        refine hK.out _ _ (HXdxx.out.sub0 (by simp) (by simp)) (fun hS => ?_)
        clear hK K
        have szwdxx : wdx.heap.size < (wdx.alloc (.cells #[.int .i64 0, .int .i64 0] 57)).heap.size := by simp
        generalize wdx.alloc (.cells #[.int .i64 0, .int .i64 0] 57) = wdxx at *
        refine wpAnyH_ready (rs := [5]) (by kernel_rfl) (by simp) ?_
        refine AllReadyH.cons rfl (fun K hK => ?_) AllReadyH.nil
        have hcall := snode_any z (.leaf 0) (.leaf 0) (E.tv 0 none 0 0) (E.tv 0 none 0 0) wdxx ⟨none, 0, rfl⟩ ⟨none, 0, rfl⟩
        unfold E.tv at hcall
        go_simp
        go_wp2_with fail
        refine hcall.mono ?_
        rintro e wdxxx ⟨v6, rfl, ht6, hbx⟩
        obtain ⟨A6, n6, c6, rfl⟩ := E.InP.form ht6
        simp only [E.Tr.N] at ht6 ⊢
        have HXdxxx := Lib.hid ((HXdxx.out.next hbx).e ht6)
        have szwdxxx : wdxx.heap.size ≤ wdxxx.heap.size := hbx.size
        clear hcall ht6 hbx HXdxx
        unfold E.tv
        refine hK.out _ _ (HXdxxx.out.sub0 (by simp) (by simp)) (fun hS => ?_)
        clear hK K
        refine wpAnyH_ready (rs := [6]) (by kernel_rfl) (by simp) ?_
        refine AllReadyH.cons rfl (fun K hK => ?_) AllReadyH.nil
        have hcall := CAL.out wdxxx (E.tv z A6 n6 c6) HXdxxx.out.bel (HXdxxx.out.eget (by simp))
        unfold E.tv at hcall
        go_simp
        go_wp2_with fail
        refine hcall.mono ?_
        rintro e wdxxxx ⟨v5, rfl, ht5, hbx⟩
        obtain ⟨A5, n5, c5, rfl⟩ := E.InP.form ht5
        simp only at ht5 ⊢
        obtain ⟨z5, hz5⟩ : ∃ z5, t5.N = z5 := ⟨_, rfl⟩
        rw [hz5] at ht5 ⊢
        clear hz5
        have HXdxxxx := Lib.hid ((HXdxxx.out.next hbx).e ht5)
        have szwdxxxx : wdxxx.heap.size ≤ wdxxxx.heap.size := hbx.size
        clear hcall ht5 hbx HXdxxx
        unfold E.tv cv
        refine hK.out _ _ (HXdxxxx.out.sub0 (by simp) (by simp)) (fun hS => ?_)
        clear hK K
        refine wpAnyH_take (i := 7) (v := ?_) rfl (by kernel_rfl) (by kernel_rfl) (by kernel_rfl) (fun _ _ _ h => h) (Yields.yieldsIf (Or.inl ⟨by kernel_rfl, ?_⟩)) hS ?_
        rotate_left
        · first | (intro w; go_simp; done) | (intro w; go_simp; with_reducible rfl)
        refine wpAnyH_take (i := 8) (v := ?_) rfl (by kernel_rfl) (by kernel_rfl) (by kernel_rfl) (fun _ _ _ h => h) (Yields.yieldsIf (Or.inl ⟨by kernel_rfl, ?_⟩)) hS ?_
        rotate_left
        · first | (intro w; go_simp; done) | (intro w; go_simp; with_reducible rfl)
        refine wpAnyH_take (i := 9) (v := ?_) rfl (by kernel_rfl) (by kernel_rfl) (by kernel_rfl) (fun _ _ _ h => h) (Yields.yieldsIf (Or.inl ⟨by kernel_rfl, ?_⟩)) hS ?_
        rotate_left
        · first | (intro w; go_simp; done) | (intro w; go_simp; with_reducible rfl)
        refine wpAnyH_ready (rs := [12]) (by kernel_rfl) (by simp) ?_
        refine AllReadyH.cons rfl (fun K hK => ?_) AllReadyH.nil
        obtain ⟨y0, y1, q0, q1, q2, q3⟩ := HXdxxxx.out.facts2 (wd.heap.size) (by simp)
        go_simp
        go_wp2
        have HXdxxxxx := Lib.hid ((HXdxxxx.out.sub (bs' := [(w.heap.size, 0, .int .i64 z), (w.heap.size, 1, .slice A 0 c), (wdx.heap.size, 0, .int .i64 0), (wdx.heap.size, 1, .int .i64 0)]) (rs' := [(w.heap.size, 2), (w.heap.size + 1, 2), (w.heap.size + 1 + 1, 2), (wd.heap.size, 2), (wdx.heap.size, 2)]) (is' := []) (es' := [(t5, E.tv z5 A5 n5 c5)]) (by simp) (by simp) (by simp) (by simp)).set2 (wd.heap.size) (.int .i64 z5) (.slice A5 n5 c5) (by simp) (by simp only [List.mem_cons, List.not_mem_nil, or_false, forall_eq_or_imp, forall_eq]; omega) (by simp))
        clear q0 q1 q2 q3 HXdxxxx
        refine hK.out _ _ (HXdxxxxx.out.sub0 (by simp) (by simp)) (fun hS => ?_)
        clear hK K
        generalize (wdxxxx.setCell ⟨wd.heap.size, 0, none⟩ (.int .i64 z5)).setCell ⟨wd.heap.size, 1, none⟩ (.slice A5 n5 c5) = wdxxxxx at *
        refine wpAnyH_ready (rs := [13]) (by kernel_rfl) (by simp) ?_
        refine AllReadyH.cons rfl (fun K hK => ?_) AllReadyH.nil
        obtain ⟨y0, y1, q0, q1, q2, q3⟩ := HXdxxxxx.out.facts2 (wdx.heap.size) (by simp)
        go_simp
        go_wp2
        have HXdxxxxxx := Lib.hid ((HXdxxxxx.out.sub (bs' := [(w.heap.size, 0, .int .i64 z), (w.heap.size, 1, .slice A 0 c), (wd.heap.size, 0, (.int .i64 z5)), (wd.heap.size, 1, (.slice A5 n5 c5))]) (rs' := [(w.heap.size, 2), (w.heap.size + 1, 2), (w.heap.size + 1 + 1, 2), (wd.heap.size, 2), (wdx.heap.size, 2)]) (is' := []) (es' := [(t5, E.tv z5 A5 n5 c5)]) (by simp) (by simp) (by simp) (by simp)).set2 (wdx.heap.size) (.int .i64 (k1 : Int)) (.int .i64 (k2 : Int)) (by simp) (by simp only [List.mem_cons, List.not_mem_nil, or_false, forall_eq_or_imp, forall_eq]; omega) (by simp))
        clear q0 q1 q2 q3 HXdxxxxx
        refine hK.out _ _ (HXdxxxxxx.out.sub0 (by simp) (by simp)) (fun hS => ?_)
        clear hK K
        generalize (wdxxxxx.setCell ⟨wdx.heap.size, 0, none⟩ (.int .i64 (k1 : Int))).setCell ⟨wdx.heap.size, 1, none⟩ (.int .i64 (k2 : Int)) = wdxxxxxx at *
        try go_simp
        refine wpAnyH_done (by kernel_rfl) ?_ _
        go_wp2_with fail
        go_meet
        exact ⟨wd.heap.size, wdx.heap.size, z5, A5, n5, c5, rfl, rfl, by omega, by omega, by omega, HXdxxxxxx.out.sub (by simp) (by simp) (by simp) (by simp)⟩
    · go_simp
      go_wp2
      have HXdx' := HXd.out.two (.int .i64 0) (.int .i64 0) 57
      have HXdx := Lib.hid HXdx'
      clear HXdx' HXd
      simp only [List.nil_append, List.cons_append] at HXdx
      refine hK.out _ _ (HXdx.out.sub0 (by simp) (by simp)) (fun hS => ?_)
      clear hK K
      have szwdx : wd.heap.size < (wd.alloc (.cells #[.int .i64 0, .int .i64 0] 57)).heap.size := by simp
      generalize wd.alloc (.cells #[.int .i64 0, .int .i64 0] 57) = wdx at *
      refine wpAnyH_ready (rs := [5, 10]) (by kernel_rfl) (by simp) ?_
      refine AllReadyH.cons rfl (fun K hK => ?_) (AllReadyH.cons rfl (fun K hK => ?_) AllReadyH.nil)
      · have hcall := snode_any z (.leaf 0) (.leaf 0) (E.tv 0 none 0 0) (E.tv 0 none 0 0) wdx ⟨none, 0, rfl⟩ ⟨none, 0, rfl⟩
        unfold E.tv at hcall
        go_simp
        go_wp2_with fail
        refine hcall.mono ?_
        rintro e wdxx ⟨v6, rfl, ht6, hbx⟩
        obtain ⟨A6, n6, c6, rfl⟩ := E.InP.form ht6
        simp only [E.Tr.N] at ht6 ⊢
        have HXdxx := Lib.hid ((HXdx.out.next hbx).e ht6)
        have szwdxx : wdx.heap.size ≤ wdxx.heap.size := hbx.size
        clear hcall ht6 hbx HXdx
        unfold E.tv
        refine hK.out _ _ (HXdxx.out.sub0 (by simp) (by simp)) (fun hS => ?_)
        clear hK K
        refine wpAnyH_ready (rs := [6, 10]) (by kernel_rfl) (by simp) ?_
        refine AllReadyH.cons rfl (fun K hK => ?_) (AllReadyH.cons rfl (fun K hK => ?_) AllReadyH.nil)
        · have hcall := CAL.out wdxx (E.tv z A6 n6 c6) HXdxx.out.bel (HXdxx.out.eget (by simp))
          unfold E.tv at hcall
          go_simp
          go_wp2_with fail
          refine hcall.mono ?_
          rintro e wdxxx ⟨v5, rfl, ht5, hbx⟩
          obtain ⟨A5, n5, c5, rfl⟩ := E.InP.form ht5
          simp only at ht5 ⊢
          obtain ⟨z5, hz5⟩ : ∃ z5, t5.N = z5 := ⟨_, rfl⟩
          rw [hz5] at ht5 ⊢
          clear hz5
          have HXdxxx := Lib.hid ((HXdxx.out.next hbx).e ht5)
          have szwdxxx : wdxx.heap.size ≤ wdxxx.heap.size := hbx.size
          clear hcall ht5 hbx HXdxx
          unfold E.tv cv
          refine hK.out _ _ (HXdxxx.out.sub0 (by simp) (by simp)) (fun hS => ?_)
          clear hK K
          refine wpAnyH_take (i := 7) (v := ?_) rfl (by kernel_rfl) (by kernel_rfl) (by kernel_rfl) (fun _ _ _ h => h) (Yields.yieldsIf (Or.inl ⟨by kernel_rfl, ?_⟩)) hS ?_
          rotate_left
          · first | (intro w; go_simp; done) | (intro w; go_simp; with_reducible rfl)
          refine wpAnyH_take (i := 8) (v := ?_) rfl (by kernel_rfl) (by kernel_rfl) (by kernel_rfl) (fun _ _ _ h => h) (Yields.yieldsIf (Or.inl ⟨by kernel_rfl, ?_⟩)) hS ?_
          rotate_left
          · first | (intro w; go_simp; done) | (intro w; go_simp; with_reducible rfl)
          refine wpAnyH_take (i := 9) (v := ?_) rfl (by kernel_rfl) (by kernel_rfl) (by kernel_rfl) (fun _ _ _ h => h) (Yields.yieldsIf (Or.inl ⟨by kernel_rfl, ?_⟩)) hS ?_
          rotate_left
          · first | (intro w; go_simp; done) | (intro w; go_simp; with_reducible rfl)
          refine wpAnyH_ready (rs := [10]) (by kernel_rfl) (by simp) ?_
          refine AllReadyH.cons rfl (fun K hK => ?_) AllReadyH.nil
          go_simp
          go_wp2
          have HXdxxxx' := HXdxxx.out.two (.int .i64 0) (.slice none 0 0) 27
          have HXdxxxx := Lib.hid HXdxxxx'
          clear HXdxxxx' HXdxxx
          simp only [List.nil_append, List.cons_append] at HXdxxxx
          refine hK.out _ _ (HXdxxxx.out.sub0 (by simp) (by simp)) (fun hS => ?_)
          clear hK K
          have szwdxxxx : wdxxx.heap.size < (wdxxx.alloc (.cells #[.int .i64 0, .slice none 0 0] 27)).heap.size := by simp
          generalize wdxxx.alloc (.cells #[.int .i64 0, .slice none 0 0] 27) = wdxxxx at *
          refine wpAnyH_ready (rs := [12]) (by kernel_rfl) (by simp) ?_
          refine AllReadyH.cons rfl (fun K hK => ?_) AllReadyH.nil
          obtain ⟨y0, y1, q0, q1, q2, q3⟩ := HXdxxxx.out.facts2 (wdxxx.heap.size) (by simp)
          go_simp
          go_wp2
          have HXdxxxxx := Lib.hid ((HXdxxxx.out.sub (bs' := [(w.heap.size, 0, .int .i64 z), (w.heap.size, 1, .slice A 0 c), (wd.heap.size, 0, .int .i64 0), (wd.heap.size, 1, .int .i64 0)]) (rs' := [(w.heap.size, 2), (w.heap.size + 1, 2), (w.heap.size + 1 + 1, 2), (wd.heap.size, 2), (wdxxx.heap.size, 2)]) (is' := []) (es' := [(t5, E.tv z5 A5 n5 c5)]) (by simp) (by simp) (by simp) (by simp)).set2 (wdxxx.heap.size) (.int .i64 z5) (.slice A5 n5 c5) (by simp) (by simp only [List.mem_cons, List.not_mem_nil, or_false, forall_eq_or_imp, forall_eq]; omega) (by simp))
          clear q0 q1 q2 q3 HXdxxxx
          refine hK.out _ _ (HXdxxxxx.out.sub0 (by simp) (by simp)) (fun hS => ?_)
          clear hK K
          generalize (wdxxxx.setCell ⟨wdxxx.heap.size, 0, none⟩ (.int .i64 z5)).setCell ⟨wdxxx.heap.size, 1, none⟩ (.slice A5 n5 c5) = wdxxxxx at *
          refine wpAnyH_ready (rs := [13]) (by kernel_rfl) (by simp) ?_
          refine AllReadyH.cons rfl (fun K hK => ?_) AllReadyH.nil
          obtain ⟨y0, y1, q0, q1, q2, q3⟩ := HXdxxxxx.out.facts2 (wd.heap.size) (by simp)
          go_simp
          go_wp2
          have HXdxxxxxx := Lib.hid ((HXdxxxxx.out.sub (bs' := [(w.heap.size, 0, .int .i64 z), (w.heap.size, 1, .slice A 0 c), (wdxxx.heap.size, 0, (.int .i64 z5)), (wdxxx.heap.size, 1, (.slice A5 n5 c5))]) (rs' := [(w.heap.size, 2), (w.heap.size + 1, 2), (w.heap.size + 1 + 1, 2), (wd.heap.size, 2), (wdxxx.heap.size, 2)]) (is' := []) (es' := [(t5, E.tv z5 A5 n5 c5)]) (by simp) (by simp) (by simp) (by simp)).set2 (wd.heap.size) (.int .i64 (k1 : Int)) (.int .i64 (k2 : Int)) (by simp) (by simp only [List.mem_cons, List.not_mem_nil, or_false, forall_eq_or_imp, forall_eq]; omega) (by simp))
          clear q0 q1 q2 q3 HXdxxxxx
          refine hK.out _ _ (HXdxxxxxx.out.sub0 (by simp) (by simp)) (fun hS => ?_)
          clear hK K
          generalize (wdxxxxx.setCell ⟨wd.heap.size, 0, none⟩ (.int .i64 (k1 : Int))).setCell ⟨wd.heap.size, 1, none⟩ (.int .i64 (k2 : Int)) = wdxxxxxx at *
          try go_simp
          refine wpAnyH_done (by kernel_rfl) ?_ _
          go_wp2_with fail
          go_meet
          exact ⟨wdxxx.heap.size, wd.heap.size, z5, A5, n5, c5, rfl, rfl, by omega, by omega, by omega, HXdxxxxxx.out.sub (by simp) (by simp) (by simp) (by simp)⟩
        · go_simp
          go_wp2
          have HXdxxx' := HXdxx.out.two (.int .i64 0) (.slice none 0 0) 27
          have HXdxxx := Lib.hid HXdxxx'
          clear HXdxxx' HXdxx
          simp only [List.nil_append, List.cons_append] at HXdxxx
          refine hK.out _ _ (HXdxxx.out.sub0 (by simp) (by simp)) (fun hS => ?_)
          clear hK K
          have szwdxxx : wdxx.heap.size < (wdxx.alloc (.cells #[.int .i64 0, .slice none 0 0] 27)).heap.size := by simp
          generalize wdxx.alloc (.cells #[.int .i64 0, .slice none 0 0] 27) = wdxxx at *
          refine wpAnyH_ready (rs := [6]) (by kernel_rfl) (by simp) ?_
          refine AllReadyH.cons rfl (fun K hK => ?_) AllReadyH.nil
          have hcall := CAL.out wdxxx (E.tv z A6 n6 c6) HXdxxx.out.bel (HXdxxx.out.eget (by simp))
          unfold E.tv at hcall
          go_simp
          go_wp2_with fail
          refine hcall.mono ?_
          rintro e wdxxxx ⟨v5, rfl, ht5, hbx⟩
          obtain ⟨A5, n5, c5, rfl⟩ := E.InP.form ht5
          simp only at ht5 ⊢
          obtain ⟨z5, hz5⟩ : ∃ z5, t5.N = z5 := ⟨_, rfl⟩
          rw [hz5] at ht5 ⊢
          clear hz5
          have HXdxxxx := Lib.hid ((HXdxxx.out.next hbx).e ht5)
          have szwdxxxx : wdxxx.heap.size ≤ wdxxxx.heap.size := hbx.size
          clear hcall ht5 hbx HXdxxx
          unfold E.tv cv
          refine hK.out _ _ (HXdxxxx.out.sub0 (by simp) (by simp)) (fun hS => ?_)
          clear hK K
          refine wpAnyH_take (i := 7) (v := ?_) rfl (by kernel_rfl) (by kernel_rfl) (by kernel_rfl) (fun _ _ _ h => h) (Yields.yieldsIf (Or.inl ⟨by kernel_rfl, ?_⟩)) hS ?_
          rotate_left
          · first | (intro w; go_simp; done) | (intro w; go_simp; with_reducible rfl)
          refine wpAnyH_take (i := 8) (v := ?_) rfl (by kernel_rfl) (by kernel_rfl) (by kernel_rfl) (fun _ _ _ h => h) (Yields.yieldsIf (Or.inl ⟨by kernel_rfl, ?_⟩)) hS ?_
          rotate_left
          · first | (intro w; go_simp; done) | (intro w; go_simp; with_reducible rfl)
          refine wpAnyH_take (i := 9) (v := ?_) rfl (by kernel_rfl) (by kernel_rfl) (by kernel_rfl) (fun _ _ _ h => h) (Yields.yieldsIf (Or.inl ⟨by kernel_rfl, ?_⟩)) hS ?_
          rotate_left
          · first | (intro w; go_simp; done) | (intro w; go_simp; with_reducible rfl)
          refine wpAnyH_ready (rs := [12]) (by kernel_rfl) (by simp) ?_
          refine AllReadyH.cons rfl (fun K hK => ?_) AllReadyH.nil
          obtain ⟨y0, y1, q0, q1, q2, q3⟩ := HXdxxxx.out.facts2 (wdxx.heap.size) (by simp)
          go_simp
          go_wp2
          have HXdxxxxx := Lib.hid ((HXdxxxx.out.sub (bs' := [(w.heap.size, 0, .int .i64 z), (w.heap.size, 1, .slice A 0 c), (wd.heap.size, 0, .int .i64 0), (wd.heap.size, 1, .int .i64 0)]) (rs' := [(w.heap.size, 2), (w.heap.size + 1, 2), (w.heap.size + 1 + 1, 2), (wd.heap.size, 2), (wdxx.heap.size, 2)]) (is' := []) (es' := [(t5, E.tv z5 A5 n5 c5)]) (by simp) (by simp) (by simp) (by simp)).set2 (wdxx.heap.size) (.int .i64 z5) (.slice A5 n5 c5) (by simp) (by simp only [List.mem_cons, List.not_mem_nil, or_false, forall_eq_or_imp, forall_eq]; omega) (by simp))
          clear q0 q1 q2 q3 HXdxxxx
          refine hK.out _ _ (HXdxxxxx.out.sub0 (by simp) (by simp)) (fun hS => ?_)
          clear hK K
          generalize (wdxxxx.setCell ⟨wdxx.heap.size, 0, none⟩ (.int .i64 z5)).setCell ⟨wdxx.heap.size, 1, none⟩ (.slice A5 n5 c5) = wdxxxxx at *
          refine wpAnyH_ready (rs := [13]) (by kernel_rfl) (by simp) ?_
          refine AllReadyH.cons rfl (fun K hK => ?_) AllReadyH.nil
          obtain ⟨y0, y1, q0, q1, q2, q3⟩ := HXdxxxxx.out.facts2 (wd.heap.size) (by simp)
          go_simp
          go_wp2
          have HXdxxxxxx := Lib.hid ((HXdxxxxx.out.sub (bs' := [(w.heap.size, 0, .int .i64 z), (w.heap.size, 1, .slice A 0 c), (wdxx.heap.size, 0, (.int .i64 z5)), (wdxx.heap.size, 1, (.slice A5 n5 c5))]) (rs' := [(w.heap.size, 2), (w.heap.size + 1, 2), (w.heap.size + 1 + 1, 2), (wd.heap.size, 2), (wdxx.heap.size, 2)]) (is' := []) (es' := [(t5, E.tv z5 A5 n5 c5)]) (by simp) (by simp) (by simp) (by simp)).set2 (wd.heap.size) (.int .i64 (k1 : Int)) (.int .i64 (k2 : Int)) (by simp) (by simp only [List.mem_cons, List.not_mem_nil, or_false, forall_eq_or_imp, forall_eq]; omega) (by simp))
          clear q0 q1 q2 q3 HXdxxxxx
          refine hK.out _ _ (HXdxxxxxx.out.sub0 (by simp) (by simp)) (fun hS => ?_)
          clear hK K
          generalize (wdxxxxx.setCell ⟨wd.heap.size, 0, none⟩ (.int .i64 (k1 : Int))).setCell ⟨wd.heap.size, 1, none⟩ (.int .i64 (k2 : Int)) = wdxxxxxx at *
          try go_simp
          refine wpAnyH_done (by kernel_rfl) ?_ _
          go_wp2_with fail
          go_meet
          exact ⟨wdxx.heap.size, wd.heap.size, z5, A5, n5, c5, rfl, rfl, by omega, by omega, by omega, HXdxxxxxx.out.sub (by simp) (by simp) (by simp) (by simp)⟩
      · go_simp
        go_wp2
        have HXdxx' := HXdx.out.two (.int .i64 0) (.slice none 0 0) 27
        have HXdxx := Lib.hid HXdxx'
        clear HXdxx' HXdx
        simp only [List.nil_append, List.cons_append] at HXdxx
        refine hK.out _ _ (HXdxx.out.sub0 (by simp) (by simp)) (fun hS => ?_)
        clear hK K
        have szwdxx : wdx.heap.size < (wdx.alloc (.cells #[.int .i64 0, .slice none 0 0] 27)).heap.size := by simp
        generalize wdx.alloc (.cells #[.int .i64 0, .slice none 0 0] 27) = wdxx at *
        refine wpAnyH_ready (rs := [5]) (by kernel_rfl) (by simp) ?_
        refine AllReadyH.cons rfl (fun K hK => ?_) AllReadyH.nil
        have hcall := snode_any z (.leaf 0) (.leaf 0) (E.tv 0 none 0 0) (E.tv 0 none 0 0) wdxx ⟨none, 0, rfl⟩ ⟨none, 0, rfl⟩
        unfold E.tv at hcall
        go_simp
        go_wp2_with fail
        refine hcall.mono ?_
        rintro e wdxxx ⟨v6, rfl, ht6, hbx⟩
        obtain ⟨A6, n6, c6, rfl⟩ := E.InP.form ht6
        simp only [E.Tr.N] at ht6 ⊢
        have HXdxxx := Lib.hid ((HXdxx.out.next hbx).e ht6)
        have szwdxxx : wdxx.heap.size ≤ wdxxx.heap.size := hbx.size
        clear hcall ht6 hbx HXdxx
        unfold E.tv
        refine hK.out _ _ (HXdxxx.out.sub0 (by simp) (by simp)) (fun hS => ?_)
        clear hK K
        refine wpAnyH_ready (rs := [6]) (by kernel_rfl) (by simp) ?_
        refine AllReadyH.cons rfl (fun K hK => ?_) AllReadyH.nil
        have hcall := CAL.out wdxxx (E.tv z A6 n6 c6) HXdxxx.out.bel (HXdxxx.out.eget (by simp))
        unfold E.tv at hcall
        go_simp
        go_wp2_with fail
        refine hcall.mono ?_
        rintro e wdxxxx ⟨v5, rfl, ht5, hbx⟩
        obtain ⟨A5, n5, c5, rfl⟩ := E.InP.form ht5
        simp only at ht5 ⊢
        obtain ⟨z5, hz5⟩ : ∃ z5, t5.N = z5 := ⟨_, rfl⟩
        rw [hz5] at ht5 ⊢
        clear hz5
        have HXdxxxx := Lib.hid ((HXdxxx.out.next hbx).e ht5)
        have szwdxxxx : wdxxx.heap.size ≤ wdxxxx.heap.size := hbx.size
        clear hcall ht5 hbx HXdxxx
        unfold E.tv cv
        refine hK.out _ _ (HXdxxxx.out.sub0 (by simp) (by simp)) (fun hS => ?_)
        clear hK K
        refine wpAnyH_take (i := 7) (v := ?_) rfl (by kernel_rfl) (by kernel_rfl) (by kernel_rfl) (fun _ _ _ h => h) (Yields.yieldsIf (Or.inl ⟨by kernel_rfl, ?_⟩)) hS ?_
        rotate_left
        · first | (intro w; go_simp; done) | (intro w; go_simp; with_reducible rfl)
        refine wpAnyH_take (i := 8) (v := ?_) rfl (by kernel_rfl) (by kernel_rfl) (by kernel_rfl) (fun _ _ _ h => h) (Yields.yieldsIf (Or.inl ⟨by kernel_rfl, ?_⟩)) hS ?_
        rotate_left
        · first | (intro w; go_simp; done) | (intro w; go_simp; with_reducible rfl)
        refine wpAnyH_take (i := 9) (v := ?_) rfl (by kernel_rfl) (by kernel_rfl) (by kernel_rfl) (fun _ _ _ h => h) (Yields.yieldsIf (Or.inl ⟨by kernel_rfl, ?_⟩)) hS ?_
        rotate_left
        · first | (intro w; go_simp; done) | (intro w; go_simp; with_reducible rfl)
        refine wpAnyH_ready (rs := [12]) (by kernel_rfl) (by simp) ?_
        refine AllReadyH.cons rfl (fun K hK => ?_) AllReadyH.nil
        obtain ⟨y0, y1, q0, q1, q2, q3⟩ := HXdxxxx.out.facts2 (wdx.heap.size) (by simp)
        go_simp
        go_wp2
        have HXdxxxxx := Lib.hid ((HXdxxxx.out.sub (bs' := [(w.heap.size, 0, .int .i64 z), (w.heap.size, 1, .slice A 0 c), (wd.heap.size, 0, .int .i64 0), (wd.heap.size, 1, .int .i64 0)]) (rs' := [(w.heap.size, 2), (w.heap.size + 1, 2), (w.heap.size + 1 + 1, 2), (wd.heap.size, 2), (wdx.heap.size, 2)]) (is' := []) (es' := [(t5, E.tv z5 A5 n5 c5)]) (by simp) (by simp) (by simp) (by simp)).set2 (wdx.heap.size) (.int .i64 z5) (.slice A5 n5 c5) (by simp) (by simp only [List.mem_cons, List.not_mem_nil, or_false, forall_eq_or_imp, forall_eq]; omega) (by simp))
        clear q0 q1 q2 q3 HXdxxxx
        refine hK.out _ _ (HXdxxxxx.out.sub0 (by simp) (by simp)) (fun hS => ?_)
        clear hK K
        generalize (wdxxxx.setCell ⟨wdx.heap.size, 0, none⟩ (.int .i64 z5)).setCell ⟨wdx.heap.size, 1, none⟩ (.slice A5 n5 c5) = wdxxxxx at *
        refine wpAnyH_ready (rs := [13]) (by kernel_rfl) (by simp) ?_
        refine AllReadyH.cons rfl (fun K hK => ?_) AllReadyH.nil
        obtain ⟨y0, y1, q0, q1, q2, q3⟩ := HXdxxxxx.out.facts2 (wd.heap.size) (by simp)
        go_simp
        go_wp2
        have HXdxxxxxx := Lib.hid ((HXdxxxxx.out.sub (bs' := [(w.heap.size, 0, .int .i64 z), (w.heap.size, 1, .slice A 0 c), (wdx.heap.size, 0, (.int .i64 z5)), (wdx.heap.size, 1, (.slice A5 n5 c5))]) (rs' := [(w.heap.size, 2), (w.heap.size + 1, 2), (w.heap.size + 1 + 1, 2), (wd.heap.size, 2), (wdx.heap.size, 2)]) (is' := []) (es' := [(t5, E.tv z5 A5 n5 c5)]) (by simp) (by simp) (by simp) (by simp)).set2 (wd.heap.size) (.int .i64 (k1 : Int)) (.int .i64 (k2 : Int)) (by simp) (by simp only [List.mem_cons, List.not_mem_nil, or_false, forall_eq_or_imp, forall_eq]; omega) (by simp))
        clear q0 q1 q2 q3 HXdxxxxx
        refine hK.out _ _ (HXdxxxxxx.out.sub0 (by simp) (by simp)) (fun hS => ?_)
        clear hK K
        generalize (wdxxxxx.setCell ⟨wd.heap.size, 0, none⟩ (.int .i64 (k1 : Int))).setCell ⟨wd.heap.size, 1, none⟩ (.int .i64 (k2 : Int)) = wdxxxxxx at *
        try go_simp
        refine wpAnyH_done (by kernel_rfl) ?_ _
        go_wp2_with fail
        go_meet
        exact ⟨wdx.heap.size, wd.heap.size, z5, A5, n5, c5, rfl, rfl, by omega, by omega, by omega, HXdxxxxxx.out.sub (by simp) (by simp) (by simp) (by simp)⟩
  case rest =>
  obtain ⟨g6, g7, z5, A5, n5, c5, rfl, rfl, n6, n7, n67, hX⟩ := hcut
  have HX3 := Lib.hid hX
  clear hX HX1
  obtain ⟨y0, y1, q0, q1, q2, q3⟩ := HX3.out.facts2 g7 (by simp)
  have f := HX3.out.at0
  simp only [List.mem_cons, List.not_mem_nil, or_false, forall_eq_or_imp, forall_eq] at f
  obtain ⟨p0, p1, p2, p3⟩ := f
  have HX4 := Lib.hid ((HX3.out.sub (bs' := [(g6, 0, .int .i64 z5), (g6, 1, .slice A5 n5 c5), (g7, 1, .int .i64 (k2 : Int))]) (rs' := [(w.heap.size, 2), (w.heap.size + 1, 2), (w.heap.size + 1 + 1, 2), (g6, 2), (g7, 2)]) (is' := []) (es' := [(t5, E.tv z5 A5 n5 c5)]) (by simp) (by simp) (by simp) (by simp)).put g7 2 0 (.int .i64 ((k1 : Int) + 1)) (by simp) ⟨by omega, .inl (by omega)⟩ (by simp only [List.mem_cons, List.not_mem_nil, or_false, forall_eq_or_imp, forall_eq]; omega) (by simp))
  clear HX3 q0 q1
  go_upto_region 5 with fail
  generalize wc.setCell ⟨g7, 0, none⟩ (.int .i64 ((k1 : Int) + 1)) = w4 at *
  clear p0 p1 p2 p3 q2 q3
  refine wp_region_held_drew (S := fun W => SX w [(g6, 0, .int .i64 z5), (g6, 1, .slice A5 n5 c5), (g7, 0, .int .i64 ((k1 : Int) + 1)), (g7, 1, .int .i64 (k2 : Int))] [(w.heap.size, 2), (w.heap.size + 1, 2), (w.heap.size + 1 + 1, 2), (g6, 2), (g7, 2)] [] [(t5, E.tv z5 A5 n5 c5)] W) (by kernel_rfl) ((HX4.out.drew).sub (by simp) (by simp) (by simp) (by simp)) (fun hS => ?_)
  have HXd := Lib.hid (HX4.out.drew)
  clear HX4
  generalize w4.drew = wd at *
  refine wpAnyH_take (i := 0) (v := ?_) rfl (by kernel_rfl) (by kernel_rfl) (by kernel_rfl) (fun _ _ _ h => h) (Or.inl ⟨by kernel_rfl, fun W hW => ?_⟩) hS ?_
  rotate_left
  · have f := hW.at0
    simp only [List.mem_cons, List.not_mem_nil, or_false, forall_eq_or_imp, forall_eq] at f
    obtain ⟨p0, p1, p2, p3⟩ := f
    first | (go_simp; done) | (go_simp; with_reducible rfl)
  refine wpAnyH_take (i := 1) (v := ?_) rfl (by kernel_rfl) (by kernel_rfl) (by kernel_rfl) (fun _ _ _ h => h) (Or.inl ⟨by kernel_rfl, fun W hW => ?_⟩) hS ?_
  rotate_left
  · have f := hW.at0
    simp only [List.mem_cons, List.not_mem_nil, or_false, forall_eq_or_imp, forall_eq] at f
    obtain ⟨p0, p1, p2, p3⟩ := f
    first | (go_simp; done) | (go_simp; with_reducible rfl)
  refine wpAnyH_ready (rs := [2]) (by kernel_rfl) (by simp) ?_
  refine AllReadyH.cons rfl (fun K hK => ?_) AllReadyH.nil
  obtain ⟨y0, y1, q0, q1, q2, q3⟩ := HXd.out.facts2 (w.heap.size + 1) (by simp)
  go_simp
  go_wp2
  have HXdx := Lib.hid ((HXd.out.sub (bs' := [(g6, 0, .int .i64 z5), (g6, 1, .slice A5 n5 c5), (g7, 0, .int .i64 ((k1 : Int) + 1)), (g7, 1, .int .i64 (k2 : Int))]) (rs' := [(w.heap.size, 2), (w.heap.size + 1, 2), (w.heap.size + 1 + 1, 2), (g6, 2), (g7, 2)]) (is' := []) (es' := [(t5, E.tv z5 A5 n5 c5)]) (by simp) (by simp) (by simp) (by simp)).set2 (w.heap.size + 1) (.int .i64 z5) (.slice A5 n5 c5) (by simp) (by simp only [List.mem_cons, List.not_mem_nil, or_false, forall_eq_or_imp, forall_eq]; omega) (by simp))
  clear q0 q1 q2 q3 HXd
  refine hK.out _ _ (HXdx.out.sub (by simp) (by simp) (by simp) (by simp)) (fun hS => ?_)
  clear hK K
  generalize (wd.setCell ⟨w.heap.size + 1, 0, none⟩ (.int .i64 z5)).setCell ⟨w.heap.size + 1, 1, none⟩ (.slice A5 n5 c5) = wdx at *
  refine wpAnyH_ready (rs := [3]) (by kernel_rfl) (by simp) ?_
  refine AllReadyH.cons rfl (fun K hK => ?_) AllReadyH.nil
  obtain ⟨y0, y1, q0, q1, q2, q3⟩ := HXdx.out.facts2 (w.heap.size + 1 + 1) (by simp)
  go_simp
  go_wp2
  have HXdxx := Lib.hid ((HXdx.out.sub (bs' := [(g6, 0, .int .i64 z5), (g6, 1, .slice A5 n5 c5), (g7, 0, .int .i64 ((k1 : Int) + 1)), (g7, 1, .int .i64 (k2 : Int)), (w.heap.size + 1, 0, (.int .i64 z5)), (w.heap.size + 1, 1, (.slice A5 n5 c5))]) (rs' := [(w.heap.size, 2), (w.heap.size + 1, 2), (w.heap.size + 1 + 1, 2), (g6, 2), (g7, 2)]) (is' := []) (es' := [(t5, E.tv z5 A5 n5 c5)]) (by simp) (by simp) (by simp) (by simp)).set2 (w.heap.size + 1 + 1) (.int .i64 ((k1 : Int) + 1)) (.int .i64 (k2 : Int)) (by simp) (by simp only [List.mem_cons, List.not_mem_nil, or_false, forall_eq_or_imp, forall_eq]; omega) (by simp))
  clear q0 q1 q2 q3 HXdx
  refine hK.out _ _ (HXdxx.out.sub (by simp) (by simp) (by simp) (by simp)) (fun hS => ?_)
  clear hK K
  generalize (wdx.setCell ⟨w.heap.size + 1 + 1, 0, none⟩ (.int .i64 ((k1 : Int) + 1))).setCell ⟨w.heap.size + 1 + 1, 1, none⟩ (.int .i64 (k2 : Int)) = wdxx at *
  try go_simp
  refine wpAnyH_done (by kernel_rfl) ?_ _
  have f := HXdxx.out.at0
  simp only [List.mem_cons, List.not_mem_nil, or_false, forall_eq_or_imp, forall_eq] at f
  obtain ⟨p0, p1, p2, p3, p4, p5, p6, p7⟩ := f
  go_wp2
  refine bodyPost_ret (v := .tuple #[E.tv z5 A5 n5 c5, cv (k1 + 1, k2)]) (by simp [results, Tryz.f86, go_sem, E.tv, cv, *]) rfl ?_
  exact ⟨_, rfl, HXdxx.out.eget (by simp), HXdxx.out.bel⟩
end Go.Proofs.YtoaglkjpjolacaaGreatDoor.S
