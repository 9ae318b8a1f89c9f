/-
  Stamps: the growth that takes place in one kid.
-/
import Derived.Test.YtoaglkjpjolacaaGreatDoorVSG
namespace Go.Proofs.YtoaglkjpjolacaaGreatDoor.S
open Go.RowKit
set_option maxRecDepth 100000 in
set_option maxHeartbeats 12800000 in
theorem at0_any {f : E.Tr → E.Tr × Cost} {D : E.Tr → Prop} {x y : E.Tr} {G : Value} {gG gK b off c : Nat} {n oa ob : Int} {Aa Ab : Option Addr} {na ca nb cb : Nat} (w : World)
    (j0 : w.cell? ⟨gG, 0, none⟩ = some G) (j1 : w.cell? ⟨gK, 0, none⟩ = some (.int .i64 0)) (h : RunC w D f G)
    (e0 : w.cell? ⟨b, off, none⟩ = some (.int .i64 oa)) (e1 : w.cell? ⟨b, off + 1, none⟩ = some (.slice Aa na ca)) (e2 : w.cell? ⟨b, off + 2, none⟩ = some (.int .i64 ob)) (e3 : w.cell? ⟨b, off + 3, none⟩ = some (.slice Ab nb cb))
    (ex : ET w x (E.tv oa Aa na ca)) (ey : ET w y (E.tv ob Ab nb cb)) (hd : D x) (hk : (f x).2.2 ≤ 1000000) :
    Calls Tryz.prog 162 #[E.tv n (some ⟨b, off, none⟩) 2 c, .pointer (some ⟨gG, 0, none⟩), .pointer (some ⟨gK, 0, none⟩)] w (GrowI (.node n (f x).1 y, ((f x).2.1, (f x).2.2 + 1)) w) := by
  obtain ⟨fn, caps, rfl, en, cal⟩ := h
  have cal' : ∀ (W : World) (v : Value), Below w.heap.size w W → ET W x v → Calls Tryz.prog fn (#[v] ++ caps) W (GrowI (f x) W) := fun W v hb hv => cal W x v hb hv hd
  clear cal hd
  generalize f x = r5 at *
  obtain ⟨t5, k1, k2⟩ := r5
  have hw2 : IntKind.i64.wrap ((k2 : Int) + 1) = (k2 : Int) + 1 := E.wrap_id (by omega) (by simp only at hk; omega)
  clear hk
  have HX0 := Lib.hid ((((SX.begin w).two (.int .i64 n) (.slice (some ⟨b, off, none⟩) 2 c) 27).two (.int .i64 0) (.slice none 0 0) 27).two (.int .i64 0) (.int .i64 0) 57)
  simp only [List.nil_append, List.cons_append, World.size_alloc] at HX0
  have lG : gG < w.heap.size := World.block_lt_of_cell? w _ j0
  have lK : gK < w.heap.size := World.block_lt_of_cell? w _ j1
  have lb : b < w.heap.size := World.block_lt_of_cell? w _ e0
  have HO : Hid (∀ W, Below w.heap.size w W → W.cell? ⟨gG, 0, none⟩ = some (.func (.func fn) #[] caps) ∧ W.cell? ⟨gK, 0, none⟩ = some (.int .i64 0) ∧ W.cell? ⟨b, off, none⟩ = some (.int .i64 oa) ∧ W.cell? ⟨b, off + 1, none⟩ = some (.slice Aa na ca) ∧ W.cell? ⟨b, off + 2, none⟩ = some (.int .i64 ob) ∧ W.cell? ⟨b, off + 3, none⟩ = some (.slice Ab nb cb)) :=
    fun W hb => ⟨(hb.cell lG).trans j0, (hb.cell lK).trans j1, (hb.cell lb).trans e0, (hb.cell lb).trans e1, (hb.cell lb).trans e2, (hb.cell lb).trans e3⟩
  have EX := Lib.hid ex
  have EY := Lib.hid ey
  have CAL := Lib.hid cal'
  have s0 : w.heap.size + 3 ≤ ((((w.alloc (.cells #[.int .i64 n, .slice (some ⟨b, off, none⟩) 2 c] 27)).alloc (.cells #[.int .i64 0, .slice none 0 0] 27)).alloc (.cells #[.int .i64 0, .int .i64 0] 57))).heap.size := by simp
  clear j0 j1 e0 e1 e2 e3 ex ey cal' lG lK lb
  unfold E.tv
  go_enter Tryz.func162, Tryz.ntmps162
  go_upto_region 1 with fail
  generalize (((w.alloc (.cells #[.int .i64 n, .slice (some ⟨b, off, none⟩) 2 c] 27)).alloc (.cells #[.int .i64 0, .slice none 0 0] 27)).alloc (.cells #[.int .i64 0, .int .i64 0] 57)) = w1 at *
  go_cut [6, 7] (fun s6 s7 wx => ∃ (g6 g7 : Nat) (z5 : Int) (A5 : Option Addr) (n5 c5 : Nat), s6 = .pointer (some ⟨g6, 0, none⟩) ∧ s7 = .pointer (some ⟨g7, 0, none⟩) ∧ w.heap.size + 3 ≤ g6 ∧ w.heap.size + 3 ≤ g7 ∧ g6 ≠ g7 ∧ SX w [(w.heap.size, 0, .int .i64 n), (w.heap.size, 1, .slice (some ⟨b, off, none⟩) 2 c), (g6, 0, .int .i64 z5), (g6, 1, .slice A5 n5 c5), (g7, 0, .int .i64 (k1 : Int)), (g7, 1, .int .i64 (k2 : Int))] [(w.heap.size, 2), (w.heap.size + 1, 2), (w.heap.size + 1 + 1, 2), (g6, 2), (g7, 2)] [] [(t5, E.tv z5 A5 n5 c5)] wx)
  case first =>
    refine wp_region_held_drew (S := fun W => SX w [(w.heap.size, 0, .int .i64 n), (w.heap.size, 1, .slice (some ⟨b, off, none⟩) 2 c)] [(w.heap.size, 2), (w.heap.size + 1, 2), (w.heap.size + 1 + 1, 2)] [] [] W) (by kernel_rfl) ((HX0.out.drew).sub0 (by simp) (by simp)) (fun hS => ?_)
    have HXd := Lib.hid ((HX0.out.drew).sub0 (bs' := [(w.heap.size, 0, .int .i64 n), (w.heap.size, 1, .slice (some ⟨b, off, none⟩) 2 c)]) (rs' := [(w.heap.size, 2), (w.heap.size + 1, 2), (w.heap.size + 1 + 1, 2)]) (by simp) (by simp))
    have sd : w.heap.size + 3 ≤ w1.drew.heap.size := by simpa using s0
    clear HX0
    generalize w1.drew = wd at *
    refine wpAnyH_take (i := 0) (v := ?_) rfl (by kernel_rfl) (by kernel_rfl) (by kernel_rfl) (fun _ _ _ h => h) (Or.inl ⟨by kernel_rfl, fun W hW => ?_⟩) hS ?_
    rotate_left
    · obtain ⟨a0, a1, a2, a3, a4, a5⟩ := HO.out W hW.bel
      have f := hW.at0
      simp only [List.mem_cons, List.not_mem_nil, or_false, forall_eq_or_imp, forall_eq] at f
      obtain ⟨p0, p1⟩ := f
      first | (go_simp; done) | (go_simp; with_reducible rfl)
    refine wpAnyH_take (i := 1) (v := ?_) rfl (by kernel_rfl) (by kernel_rfl) (by kernel_rfl) (fun _ _ _ h => h) (Yields.yieldsIf (Or.inl ⟨by kernel_rfl, ?_⟩)) hS ?_
    rotate_left
    · first | (intro w; go_simp; done) | (intro w; go_simp; with_reducible rfl)
    refine wpAnyH_take (i := 2) (v := ?_) rfl (by kernel_rfl) (by kernel_rfl) (by kernel_rfl) (fun _ _ _ h => h) (Or.inl ⟨by kernel_rfl, fun W hW => ?_⟩) hS ?_
    rotate_left
    · obtain ⟨a0, a1, a2, a3, a4, a5⟩ := HO.out W hW.bel
      have f := hW.at0
      simp only [List.mem_cons, List.not_mem_nil, or_false, forall_eq_or_imp, forall_eq] at f
      obtain ⟨p0, p1⟩ := f
      first | (go_simp; done) | (go_simp; with_reducible rfl)
    refine wpAnyH_take (i := 3) (v := ?_) rfl (by kernel_rfl) (by kernel_rfl) (by kernel_rfl) (fun _ _ _ h => h) (Or.inl ⟨by kernel_rfl, fun W hW => ?_⟩) hS ?_
    rotate_left
    · obtain ⟨a0, a1, a2, a3, a4, a5⟩ := HO.out W hW.bel
      have f := hW.at0
      simp only [List.mem_cons, List.not_mem_nil, or_false, forall_eq_or_imp, forall_eq] at f
      obtain ⟨p0, p1⟩ := f
      first | (go_simp; done) | (go_simp; with_reducible rfl)
    refine wpAnyH_take (i := 4) (v := ?_) rfl (by kernel_rfl) (by kernel_rfl) (by kernel_rfl) (fun _ _ _ h => h) (Yields.yieldsIf (Or.inl ⟨by kernel_rfl, ?_⟩)) hS ?_
    rotate_left
    · first | (intro w; go_simp; done) | (intro w; go_simp; with_reducible rfl)
    refine wpAnyH_take (i := 5) (v := ?_) rfl (by kernel_rfl) (by kernel_rfl) (by kernel_rfl) (fun _ _ _ h => h) (Or.inl ⟨by kernel_rfl, fun W hW => ?_⟩) hS ?_
    rotate_left
    · obtain ⟨a0, a1, a2, a3, a4, a5⟩ := HO.out W hW.bel
      have f := hW.at0
      simp only [List.mem_cons, List.not_mem_nil, or_false, forall_eq_or_imp, forall_eq] at f
      obtain ⟨p0, p1⟩ := f
      first | (go_simp; done) | (go_simp; with_reducible rfl)
    refine wpAnyH_ready (rs := [6, 10, 11]) (by kernel_rfl) (by simp) ?_
    refine AllReadyH.cons rfl (fun K hK => ?_) (AllReadyH.cons rfl (fun K hK => ?_) (AllReadyH.cons rfl (fun K hK => ?_) AllReadyH.nil))
    · have hcall := CAL.out wd (E.tv oa Aa na ca) HXd.out.bel (E.InP.up EX.out HXd.out.bel)
      unfold E.tv at hcall
      go_simp
      go_wp2_with fail
      refine hcall.mono ?_
      rintro e wdx ⟨v5, rfl, ht5, hbx⟩
      obtain ⟨A5, n5, c5, rfl⟩ := E.InP.form ht5
      simp only at ht5 ⊢
      obtain ⟨z5, hz5⟩ : ∃ z5, t5.N = z5 := ⟨_, rfl⟩
      rw [hz5] at ht5 ⊢
      clear hz5
      have HXdx := Lib.hid ((HXd.out.next hbx).e ht5)
      have szwdx : wd.heap.size ≤ wdx.heap.size := hbx.size
      clear hcall ht5 hbx HXd
      unfold E.tv cv
      refine hK.out _ _ (HXdx.out.sub0 (by simp) (by simp)) (fun hS => ?_)
      clear hK K
      refine wpAnyH_take (i := 7) (v := ?_) rfl (by kernel_rfl) (by kernel_rfl) (by kernel_rfl) (fun _ _ _ h => h) (Yields.yieldsIf (Or.inl ⟨by kernel_rfl, ?_⟩)) hS ?_
      rotate_left
      · first | (intro w; go_simp; done) | (intro w; go_simp; with_reducible rfl)
      refine wpAnyH_take (i := 8) (v := ?_) rfl (by kernel_rfl) (by kernel_rfl) (by kernel_rfl) (fun _ _ _ h => h) (Yields.yieldsIf (Or.inl ⟨by kernel_rfl, ?_⟩)) hS ?_
      rotate_left
      · first | (intro w; go_simp; done) | (intro w; go_simp; with_reducible rfl)
      refine wpAnyH_take (i := 9) (v := ?_) rfl (by kernel_rfl) (by kernel_rfl) (by kernel_rfl) (fun _ _ _ h => h) (Yields.yieldsIf (Or.inl ⟨by kernel_rfl, ?_⟩)) hS ?_
      rotate_left
      · first | (intro w; go_simp; done) | (intro w; go_simp; with_reducible rfl)
      refine wpAnyH_ready (rs := [10, 11]) (by kernel_rfl) (by simp) ?_
      refine AllReadyH.cons rfl (fun K hK => ?_) (AllReadyH.cons rfl (fun K hK => ?_) AllReadyH.nil)
      · go_simp
        go_wp2
        have HXdxx' := HXdx.out.two (.int .i64 0) (.slice none 0 0) 27
        have HXdxx := Lib.hid HXdxx'
        clear HXdxx' HXdx
        simp only [List.nil_append, List.cons_append] at HXdxx
        refine hK.out _ _ (HXdxx.out.sub0 (by simp) (by simp)) (fun hS => ?_)
        clear hK K
        have szwdxx : wdx.heap.size < (wdx.alloc (.cells #[.int .i64 0, .slice none 0 0] 27)).heap.size := by simp
        generalize wdx.alloc (.cells #[.int .i64 0, .slice none 0 0] 27) = wdxx at *
        refine wpAnyH_ready (rs := [11]) (by kernel_rfl) (by simp) ?_
        refine AllReadyH.cons rfl (fun K hK => ?_) AllReadyH.nil
        go_simp
        go_wp2
        have HXdxxx' := HXdxx.out.two (.int .i64 0) (.int .i64 0) 57
        have HXdxxx := Lib.hid HXdxxx'
        clear HXdxxx' HXdxx
        simp only [List.nil_append, List.cons_append] at HXdxxx
        refine hK.out _ _ (HXdxxx.out.sub0 (by simp) (by simp)) (fun hS => ?_)
        clear hK K
        have szwdxxx : wdxx.heap.size < (wdxx.alloc (.cells #[.int .i64 0, .int .i64 0] 57)).heap.size := by simp
        generalize wdxx.alloc (.cells #[.int .i64 0, .int .i64 0] 57) = wdxxx at *
        refine wpAnyH_ready (rs := [12]) (by kernel_rfl) (by simp) ?_
        refine AllReadyH.cons rfl (fun K hK => ?_) AllReadyH.nil
        obtain ⟨y0, y1, q0, q1, q2, q3⟩ := HXdxxx.out.facts2 (wdx.heap.size) (by simp)
        go_simp
        go_wp2
        have HXdxxxx := Lib.hid ((HXdxxx.out.sub (bs' := [(w.heap.size, 0, .int .i64 n), (w.heap.size, 1, .slice (some ⟨b, off, none⟩) 2 c), (wdxx.heap.size, 0, .int .i64 0), (wdxx.heap.size, 1, .int .i64 0)]) (rs' := [(w.heap.size, 2), (w.heap.size + 1, 2), (w.heap.size + 1 + 1, 2), (wdx.heap.size, 2), (wdxx.heap.size, 2)]) (is' := []) (es' := [(t5, E.tv z5 A5 n5 c5)]) (by simp) (by simp) (by simp) (by simp)).set2 (wdx.heap.size) (.int .i64 z5) (.slice A5 n5 c5) (by simp) (by simp only [List.mem_cons, List.not_mem_nil, or_false, forall_eq_or_imp, forall_eq]; omega) (by simp))
        clear q0 q1 q2 q3 HXdxxx
        refine hK.out _ _ (HXdxxxx.out.sub0 (by simp) (by simp)) (fun hS => ?_)
        clear hK K
        generalize (wdxxx.setCell ⟨wdx.heap.size, 0, none⟩ (.int .i64 z5)).setCell ⟨wdx.heap.size, 1, none⟩ (.slice A5 n5 c5) = wdxxxx at *
        refine wpAnyH_ready (rs := [13]) (by kernel_rfl) (by simp) ?_
        refine AllReadyH.cons rfl (fun K hK => ?_) AllReadyH.nil
        obtain ⟨y0, y1, q0, q1, q2, q3⟩ := HXdxxxx.out.facts2 (wdxx.heap.size) (by simp)
        go_simp
        go_wp2
        have HXdxxxxx := Lib.hid ((HXdxxxx.out.sub (bs' := [(w.heap.size, 0, .int .i64 n), (w.heap.size, 1, .slice (some ⟨b, off, none⟩) 2 c), (wdx.heap.size, 0, (.int .i64 z5)), (wdx.heap.size, 1, (.slice A5 n5 c5))]) (rs' := [(w.heap.size, 2), (w.heap.size + 1, 2), (w.heap.size + 1 + 1, 2), (wdx.heap.size, 2), (wdxx.heap.size, 2)]) (is' := []) (es' := [(t5, E.tv z5 A5 n5 c5)]) (by simp) (by simp) (by simp) (by simp)).set2 (wdxx.heap.size) (.int .i64 (k1 : Int)) (.int .i64 (k2 : Int)) (by simp) (by simp only [List.mem_cons, List.not_mem_nil, or_false, forall_eq_or_imp, forall_eq]; omega) (by simp))
        clear q0 q1 q2 q3 HXdxxxx
        refine hK.out _ _ (HXdxxxxx.out.sub0 (by simp) (by simp)) (fun hS => ?_)
        clear hK K
        generalize (wdxxxx.setCell ⟨wdxx.heap.size, 0, none⟩ (.int .i64 (k1 : Int))).setCell ⟨wdxx.heap.size, 1, none⟩ (.int .i64 (k2 : Int)) = wdxxxxx at *
        try go_simp
        refine wpAnyH_done (by kernel_rfl) ?_ _
        go_wp2_with fail
        go_meet
        exact ⟨wdx.heap.size, wdxx.heap.size, z5, A5, n5, c5, rfl, rfl, by omega, by omega, by omega, HXdxxxxx.out.sub (by simp) (by simp) (by simp) (by simp)⟩
      · go_simp
        go_wp2
        have HXdxx' := HXdx.out.two (.int .i64 0) (.int .i64 0) 57
        have HXdxx := Lib.hid HXdxx'
        clear HXdxx' HXdx
        simp only [List.nil_append, List.cons_append] at HXdxx
        refine hK.out _ _ (HXdxx.out.sub0 (by simp) (by simp)) (fun hS => ?_)
        clear hK K
        have szwdxx : wdx.heap.size < (wdx.alloc (.cells #[.int .i64 0, .int .i64 0] 57)).heap.size := by simp
        generalize wdx.alloc (.cells #[.int .i64 0, .int .i64 0] 57) = wdxx at *
        refine wpAnyH_ready (rs := [10]) (by kernel_rfl) (by simp) ?_
        refine AllReadyH.cons rfl (fun K hK => ?_) AllReadyH.nil
        go_simp
        go_wp2
        have HXdxxx' := HXdxx.out.two (.int .i64 0) (.slice none 0 0) 27
        have HXdxxx := Lib.hid HXdxxx'
        clear HXdxxx' HXdxx
        simp only [List.nil_append, List.cons_append] at HXdxxx
        refine hK.out _ _ (HXdxxx.out.sub0 (by simp) (by simp)) (fun hS => ?_)
        clear hK K
        have szwdxxx : wdxx.heap.size < (wdxx.alloc (.cells #[.int .i64 0, .slice none 0 0] 27)).heap.size := by simp
        generalize wdxx.alloc (.cells #[.int .i64 0, .slice none 0 0] 27) = wdxxx at *
        refine wpAnyH_ready (rs := [12]) (by kernel_rfl) (by simp) ?_
        refine AllReadyH.cons rfl (fun K hK => ?_) AllReadyH.nil
        obtain ⟨y0, y1, q0, q1, q2, q3⟩ := HXdxxx.out.facts2 (wdxx.heap.size) (by simp)
        go_simp
        go_wp2
        have HXdxxxx := Lib.hid ((HXdxxx.out.sub (bs' := [(w.heap.size, 0, .int .i64 n), (w.heap.size, 1, .slice (some ⟨b, off, none⟩) 2 c), (wdx.heap.size, 0, .int .i64 0), (wdx.heap.size, 1, .int .i64 0)]) (rs' := [(w.heap.size, 2), (w.heap.size + 1, 2), (w.heap.size + 1 + 1, 2), (wdx.heap.size, 2), (wdxx.heap.size, 2)]) (is' := []) (es' := [(t5, E.tv z5 A5 n5 c5)]) (by simp) (by simp) (by simp) (by simp)).set2 (wdxx.heap.size) (.int .i64 z5) (.slice A5 n5 c5) (by simp) (by simp only [List.mem_cons, List.not_mem_nil, or_false, forall_eq_or_imp, forall_eq]; omega) (by simp))
        clear q0 q1 q2 q3 HXdxxx
        refine hK.out _ _ (HXdxxxx.out.sub0 (by simp) (by simp)) (fun hS => ?_)
        clear hK K
        generalize (wdxxx.setCell ⟨wdxx.heap.size, 0, none⟩ (.int .i64 z5)).setCell ⟨wdxx.heap.size, 1, none⟩ (.slice A5 n5 c5) = wdxxxx at *
        refine wpAnyH_ready (rs := [13]) (by kernel_rfl) (by simp) ?_
        refine AllReadyH.cons rfl (fun K hK => ?_) AllReadyH.nil
        obtain ⟨y0, y1, q0, q1, q2, q3⟩ := HXdxxxx.out.facts2 (wdx.heap.size) (by simp)
        go_simp
        go_wp2
        have HXdxxxxx := Lib.hid ((HXdxxxx.out.sub (bs' := [(w.heap.size, 0, .int .i64 n), (w.heap.size, 1, .slice (some ⟨b, off, none⟩) 2 c), (wdxx.heap.size, 0, (.int .i64 z5)), (wdxx.heap.size, 1, (.slice A5 n5 c5))]) (rs' := [(w.heap.size, 2), (w.heap.size + 1, 2), (w.heap.size + 1 + 1, 2), (wdx.heap.size, 2), (wdxx.heap.size, 2)]) (is' := []) (es' := [(t5, E.tv z5 A5 n5 c5)]) (by simp) (by simp) (by simp) (by simp)).set2 (wdx.heap.size) (.int .i64 (k1 : Int)) (.int .i64 (k2 : Int)) (by simp) (by simp only [List.mem_cons, List.not_mem_nil, or_false, forall_eq_or_imp, forall_eq]; omega) (by simp))
        clear q0 q1 q2 q3 HXdxxxx
        refine hK.out _ _ (HXdxxxxx.out.sub0 (by simp) (by simp)) (fun hS => ?_)
        clear hK K
        generalize (wdxxxx.setCell ⟨wdx.heap.size, 0, none⟩ (.int .i64 (k1 : Int))).setCell ⟨wdx.heap.size, 1, none⟩ (.int .i64 (k2 : Int)) = wdxxxxx at *
        try go_simp
        refine wpAnyH_done (by kernel_rfl) ?_ _
        go_wp2_with fail
        go_meet
        exact ⟨wdxx.heap.size, wdx.heap.size, z5, A5, n5, c5, rfl, rfl, by omega, by omega, by omega, HXdxxxxx.out.sub (by simp) (by simp) (by simp) (by simp)⟩
    · go_simp
      go_wp2
      have HXdx' := HXd.out.two (.int .i64 0) (.slice none 0 0) 27
      have HXdx := Lib.hid HXdx'
      clear HXdx' HXd
      simp only [List.nil_append, List.cons_append] at HXdx
      refine hK.out _ _ (HXdx.out.sub0 (by simp) (by simp)) (fun hS => ?_)
      clear hK K
      have szwdx : wd.heap.size < (wd.alloc (.cells #[.int .i64 0, .slice none 0 0] 27)).heap.size := by simp
      generalize wd.alloc (.cells #[.int .i64 0, .slice none 0 0] 27) = wdx at *
      refine wpAnyH_ready (rs := [6, 11]) (by kernel_rfl) (by simp) ?_
      refine AllReadyH.cons rfl (fun K hK => ?_) (AllReadyH.cons rfl (fun K hK => ?_) AllReadyH.nil)
      · have hcall := CAL.out wdx (E.tv oa Aa na ca) HXdx.out.bel (E.InP.up EX.out HXdx.out.bel)
        unfold E.tv at hcall
        go_simp
        go_wp2_with fail
        refine hcall.mono ?_
        rintro e wdxx ⟨v5, rfl, ht5, hbx⟩
        obtain ⟨A5, n5, c5, rfl⟩ := E.InP.form ht5
        simp only at ht5 ⊢
        obtain ⟨z5, hz5⟩ : ∃ z5, t5.N = z5 := ⟨_, rfl⟩
        rw [hz5] at ht5 ⊢
        clear hz5
        have HXdxx := Lib.hid ((HXdx.out.next hbx).e ht5)
        have szwdxx : wdx.heap.size ≤ wdxx.heap.size := hbx.size
        clear hcall ht5 hbx HXdx
        unfold E.tv cv
        refine hK.out _ _ (HXdxx.out.sub0 (by simp) (by simp)) (fun hS => ?_)
        clear hK K
        refine wpAnyH_take (i := 7) (v := ?_) rfl (by kernel_rfl) (by kernel_rfl) (by kernel_rfl) (fun _ _ _ h => h) (Yields.yieldsIf (Or.inl ⟨by kernel_rfl, ?_⟩)) hS ?_
        rotate_left
        · first | (intro w; go_simp; done) | (intro w; go_simp; with_reducible rfl)
        refine wpAnyH_take (i := 8) (v := ?_) rfl (by kernel_rfl) (by kernel_rfl) (by kernel_rfl) (fun _ _ _ h => h) (Yields.yieldsIf (Or.inl ⟨by kernel_rfl, ?_⟩)) hS ?_
        rotate_left
        · first | (intro w; go_simp; done) | (intro w; go_simp; with_reducible rfl)
        refine wpAnyH_take (i := 9) (v := ?_) rfl (by kernel_rfl) (by kernel_rfl) (by kernel_rfl) (fun _ _ _ h => h) (Yields.yieldsIf (Or.inl ⟨by kernel_rfl, ?_⟩)) hS ?_
        rotate_left
        · first | (intro w; go_simp; done) | (intro w; go_simp; with_reducible rfl)
        refine wpAnyH_ready (rs := [11]) (by kernel_rfl) (by simp) ?_
        refine AllReadyH.cons rfl (fun K hK => ?_) AllReadyH.nil
        go_simp
        go_wp2
        have HXdxxx' := HXdxx.out.two (.int .i64 0) (.int .i64 0) 57
        have HXdxxx := Lib.hid HXdxxx'
        clear HXdxxx' HXdxx
        simp only [List.nil_append, List.cons_append] at HXdxxx
        refine hK.out _ _ (HXdxxx.out.sub0 (by simp) (by simp)) (fun hS => ?_)
        clear hK K
        have szwdxxx : wdxx.heap.size < (wdxx.alloc (.cells #[.int .i64 0, .int .i64 0] 57)).heap.size := by simp
        generalize wdxx.alloc (.cells #[.int .i64 0, .int .i64 0] 57) = wdxxx at *
        refine wpAnyH_ready (rs := [12]) (by kernel_rfl) (by simp) ?_
        refine AllReadyH.cons rfl (fun K hK => ?_) AllReadyH.nil
        obtain ⟨y0, y1, q0, q1, q2, q3⟩ := HXdxxx.out.facts2 (wd.heap.size) (by simp)
        go_simp
        go_wp2
        have HXdxxxx := Lib.hid ((HXdxxx.out.sub (bs' := [(w.heap.size, 0, .int .i64 n), (w.heap.size, 1, .slice (some ⟨b, off, none⟩) 2 c), (wdxx.heap.size, 0, .int .i64 0), (wdxx.heap.size, 1, .int .i64 0)]) (rs' := [(w.heap.size, 2), (w.heap.size + 1, 2), (w.heap.size + 1 + 1, 2), (wd.heap.size, 2), (wdxx.heap.size, 2)]) (is' := []) (es' := [(t5, E.tv z5 A5 n5 c5)]) (by simp) (by simp) (by simp) (by simp)).set2 (wd.heap.size) (.int .i64 z5) (.slice A5 n5 c5) (by simp) (by simp only [List.mem_cons, List.not_mem_nil, or_false, forall_eq_or_imp, forall_eq]; omega) (by simp))
        clear q0 q1 q2 q3 HXdxxx
        refine hK.out _ _ (HXdxxxx.out.sub0 (by simp) (by simp)) (fun hS => ?_)
        clear hK K
        generalize (wdxxx.setCell ⟨wd.heap.size, 0, none⟩ (.int .i64 z5)).setCell ⟨wd.heap.size, 1, none⟩ (.slice A5 n5 c5) = wdxxxx at *
        refine wpAnyH_ready (rs := [13]) (by kernel_rfl) (by simp) ?_
        refine AllReadyH.cons rfl (fun K hK => ?_) AllReadyH.nil
        obtain ⟨y0, y1, q0, q1, q2, q3⟩ := HXdxxxx.out.facts2 (wdxx.heap.size) (by simp)
        go_simp
        go_wp2
        have HXdxxxxx := Lib.hid ((HXdxxxx.out.sub (bs' := [(w.heap.size, 0, .int .i64 n), (w.heap.size, 1, .slice (some ⟨b, off, none⟩) 2 c), (wd.heap.size, 0, (.int .i64 z5)), (wd.heap.size, 1, (.slice A5 n5 c5))]) (rs' := [(w.heap.size, 2), (w.heap.size + 1, 2), (w.heap.size + 1 + 1, 2), (wd.heap.size, 2), (wdxx.heap.size, 2)]) (is' := []) (es' := [(t5, E.tv z5 A5 n5 c5)]) (by simp) (by simp) (by simp) (by simp)).set2 (wdxx.heap.size) (.int .i64 (k1 : Int)) (.int .i64 (k2 : Int)) (by simp) (by simp only [List.mem_cons, List.not_mem_nil, or_false, forall_eq_or_imp, forall_eq]; omega) (by simp))
        clear q0 q1 q2 q3 HXdxxxx
        refine hK.out _ _ (HXdxxxxx.out.sub0 (by simp) (by simp)) (fun hS => ?_)
        clear hK K
        generalize (wdxxxx.setCell ⟨wdxx.heap.size, 0, none⟩ (.int .i64 (k1 : Int))).setCell ⟨wdxx.heap.size, 1, none⟩ (.int .i64 (k2 : Int)) = wdxxxxx at *
        try go_simp
        refine wpAnyH_done (by kernel_rfl) ?_ _
        go_wp2_with fail
        go_meet
        exact ⟨wd.heap.size, wdxx.heap.size, z5, A5, n5, c5, rfl, rfl, by omega, by omega, by omega, HXdxxxxx.out.sub (by simp) (by simp) (by simp) (by simp)⟩
      · go_simp
        go_wp2
        have HXdxx' := HXdx.out.two (.int .i64 0) (.int .i64 0) 57
        have HXdxx := Lib.hid HXdxx'
        clear HXdxx' HXdx
        simp only [List.nil_append, List.cons_append] at HXdxx
        refine hK.out _ _ (HXdxx.out.sub0 (by simp) (by simp)) (fun hS => ?_)
        clear hK K
        have szwdxx : wdx.heap.size < (wdx.alloc (.cells #[.int .i64 0, .int .i64 0] 57)).heap.size := by simp
        generalize wdx.alloc (.cells #[.int .i64 0, .int .i64 0] 57) = wdxx at *
        refine wpAnyH_ready (rs := [6]) (by kernel_rfl) (by simp) ?_
        refine AllReadyH.cons rfl (fun K hK => ?_) AllReadyH.nil
        have hcall := CAL.out wdxx (E.tv oa Aa na ca) HXdxx.out.bel (E.InP.up EX.out HXdxx.out.bel)
        unfold E.tv at hcall
        go_simp
        go_wp2_with fail
        refine hcall.mono ?_
        rintro e wdxxx ⟨v5, rfl, ht5, hbx⟩
        obtain ⟨A5, n5, c5, rfl⟩ := E.InP.form ht5
        simp only at ht5 ⊢
        obtain ⟨z5, hz5⟩ : ∃ z5, t5.N = z5 := ⟨_, rfl⟩
        rw [hz5] at ht5 ⊢
        clear hz5
        have HXdxxx := Lib.hid ((HXdxx.out.next hbx).e ht5)
        have szwdxxx : wdxx.heap.size ≤ wdxxx.heap.size := hbx.size
        clear hcall ht5 hbx HXdxx
        unfold E.tv cv
        refine hK.out _ _ (HXdxxx.out.sub0 (by simp) (by simp)) (fun hS => ?_)
        clear hK K
        refine wpAnyH_take (i := 7) (v := ?_) rfl (by kernel_rfl) (by kernel_rfl) (by kernel_rfl) (fun _ _ _ h => h) (Yields.yieldsIf (Or.inl ⟨by kernel_rfl, ?_⟩)) hS ?_
        rotate_left
        · first | (intro w; go_simp; done) | (intro w; go_simp; with_reducible rfl)
        refine wpAnyH_take (i := 8) (v := ?_) rfl (by kernel_rfl) (by kernel_rfl) (by kernel_rfl) (fun _ _ _ h => h) (Yields.yieldsIf (Or.inl ⟨by kernel_rfl, ?_⟩)) hS ?_
        rotate_left
        · first | (intro w; go_simp; done) | (intro w; go_simp; with_reducible rfl)
        refine wpAnyH_take (i := 9) (v := ?_) rfl (by kernel_rfl) (by kernel_rfl) (by kernel_rfl) (fun _ _ _ h => h) (Yields.yieldsIf (Or.inl ⟨by kernel_rfl, ?_⟩)) hS ?_
        rotate_left
        · first | (intro w; go_simp; done) | (intro w; go_simp; with_reducible rfl)
        refine wpAnyH_ready (rs := [12]) (by kernel_rfl) (by simp) ?_
        refine AllReadyH.cons rfl (fun K hK => ?_) AllReadyH.nil
        obtain ⟨y0, y1, q0, q1, q2, q3⟩ := HXdxxx.out.facts2 (wd.heap.size) (by simp)
        go_simp
        go_wp2
        have HXdxxxx := Lib.hid ((HXdxxx.out.sub (bs' := [(w.heap.size, 0, .int .i64 n), (w.heap.size, 1, .slice (some ⟨b, off, none⟩) 2 c), (wdx.heap.size, 0, .int .i64 0), (wdx.heap.size, 1, .int .i64 0)]) (rs' := [(w.heap.size, 2), (w.heap.size + 1, 2), (w.heap.size + 1 + 1, 2), (wd.heap.size, 2), (wdx.heap.size, 2)]) (is' := []) (es' := [(t5, E.tv z5 A5 n5 c5)]) (by simp) (by simp) (by simp) (by simp)).set2 (wd.heap.size) (.int .i64 z5) (.slice A5 n5 c5) (by simp) (by simp only [List.mem_cons, List.not_mem_nil, or_false, forall_eq_or_imp, forall_eq]; omega) (by simp))
        clear q0 q1 q2 q3 HXdxxx
        refine hK.out _ _ (HXdxxxx.out.sub0 (by simp) (by simp)) (fun hS => ?_)
        clear hK K
        generalize (wdxxx.setCell ⟨wd.heap.size, 0, none⟩ (.int .i64 z5)).setCell ⟨wd.heap.size, 1, none⟩ (.slice A5 n5 c5) = wdxxxx at *
        refine wpAnyH_ready (rs := [13]) (by kernel_rfl) (by simp) ?_
        refine AllReadyH.cons rfl (fun K hK => ?_) AllReadyH.nil
        obtain ⟨y0, y1, q0, q1, q2, q3⟩ := HXdxxxx.out.facts2 (wdx.heap.size) (by simp)
        go_simp
        go_wp2
        have HXdxxxxx := Lib.hid ((HXdxxxx.out.sub (bs' := [(w.heap.size, 0, .int .i64 n), (w.heap.size, 1, .slice (some ⟨b, off, none⟩) 2 c), (wd.heap.size, 0, (.int .i64 z5)), (wd.heap.size, 1, (.slice A5 n5 c5))]) (rs' := [(w.heap.size, 2), (w.heap.size + 1, 2), (w.heap.size + 1 + 1, 2), (wd.heap.size, 2), (wdx.heap.size, 2)]) (is' := []) (es' := [(t5, E.tv z5 A5 n5 c5)]) (by simp) (by simp) (by simp) (by simp)).set2 (wdx.heap.size) (.int .i64 (k1 : Int)) (.int .i64 (k2 : Int)) (by simp) (by simp only [List.mem_cons, List.not_mem_nil, or_false, forall_eq_or_imp, forall_eq]; omega) (by simp))
        clear q0 q1 q2 q3 HXdxxxx
        refine hK.out _ _ (HXdxxxxx.out.sub0 (by simp) (by simp)) (fun hS => ?_)
        clear hK K
        generalize (wdxxxx.setCell ⟨wdx.heap.size, 0, none⟩ (.int .i64 (k1 : Int))).setCell ⟨wdx.heap.size, 1, none⟩ (.int .i64 (k2 : Int)) = wdxxxxx at *
        try go_simp
        refine wpAnyH_done (by kernel_rfl) ?_ _
        go_wp2_with fail
        go_meet
        exact ⟨wd.heap.size, wdx.heap.size, z5, A5, n5, c5, rfl, rfl, by omega, by omega, by omega, HXdxxxxx.out.sub (by simp) (by simp) (by simp) (by simp)⟩
    · go_simp
      go_wp2
      have HXdx' := HXd.out.two (.int .i64 0) (.int .i64 0) 57
      have HXdx := Lib.hid HXdx'
      clear HXdx' HXd
      simp only [List.nil_append, List.cons_append] at HXdx
      refine hK.out _ _ (HXdx.out.sub0 (by simp) (by simp)) (fun hS => ?_)
      clear hK K
      have szwdx : wd.heap.size < (wd.alloc (.cells #[.int .i64 0, .int .i64 0] 57)).heap.size := by simp
      generalize wd.alloc (.cells #[.int .i64 0, .int .i64 0] 57) = wdx at *
      refine wpAnyH_ready (rs := [6, 10]) (by kernel_rfl) (by simp) ?_
      refine AllReadyH.cons rfl (fun K hK => ?_) (AllReadyH.cons rfl (fun K hK => ?_) AllReadyH.nil)
      · have hcall := CAL.out wdx (E.tv oa Aa na ca) HXdx.out.bel (E.InP.up EX.out HXdx.out.bel)
        unfold E.tv at hcall
        go_simp
        go_wp2_with fail
        refine hcall.mono ?_
        rintro e wdxx ⟨v5, rfl, ht5, hbx⟩
        obtain ⟨A5, n5, c5, rfl⟩ := E.InP.form ht5
        simp only at ht5 ⊢
        obtain ⟨z5, hz5⟩ : ∃ z5, t5.N = z5 := ⟨_, rfl⟩
        rw [hz5] at ht5 ⊢
        clear hz5
        have HXdxx := Lib.hid ((HXdx.out.next hbx).e ht5)
        have szwdxx : wdx.heap.size ≤ wdxx.heap.size := hbx.size
        clear hcall ht5 hbx HXdx
        unfold E.tv cv
        refine hK.out _ _ (HXdxx.out.sub0 (by simp) (by simp)) (fun hS => ?_)
        clear hK K
        refine wpAnyH_take (i := 7) (v := ?_) rfl (by kernel_rfl) (by kernel_rfl) (by kernel_rfl) (fun _ _ _ h => h) (Yields.yieldsIf (Or.inl ⟨by kernel_rfl, ?_⟩)) hS ?_
        rotate_left
        · first | (intro w; go_simp; done) | (intro w; go_simp; with_reducible rfl)
        refine wpAnyH_take (i := 8) (v := ?_) rfl (by kernel_rfl) (by kernel_rfl) (by kernel_rfl) (fun _ _ _ h => h) (Yields.yieldsIf (Or.inl ⟨by kernel_rfl, ?_⟩)) hS ?_
        rotate_left
        · first | (intro w; go_simp; done) | (intro w; go_simp; with_reducible rfl)
        refine wpAnyH_take (i := 9) (v := ?_) rfl (by kernel_rfl) (by kernel_rfl) (by kernel_rfl) (fun _ _ _ h => h) (Yields.yieldsIf (Or.inl ⟨by kernel_rfl, ?_⟩)) hS ?_
        rotate_left
        · first | (intro w; go_simp; done) | (intro w; go_simp; with_reducible rfl)
        refine wpAnyH_ready (rs := [10]) (by kernel_rfl) (by simp) ?_
        refine AllReadyH.cons rfl (fun K hK => ?_) AllReadyH.nil
        go_simp
        go_wp2
        have HXdxxx' := HXdxx.out.two (.int .i64 0) (.slice none 0 0) 27
        have HXdxxx := Lib.hid HXdxxx'
        clear HXdxxx' HXdxx
        simp only [List.nil_append, List.cons_append] at HXdxxx
        refine hK.out _ _ (HXdxxx.out.sub0 (by simp) (by simp)) (fun hS => ?_)
        clear hK K
        have szwdxxx : wdxx.heap.size < (wdxx.alloc (.cells #[.int .i64 0, .slice none 0 0] 27)).heap.size := by simp
        generalize wdxx.alloc (.cells #[.int .i64 0, .slice none 0 0] 27) = wdxxx at *
        refine wpAnyH_ready (rs := [12]) (by kernel_rfl) (by simp) ?_
        refine AllReadyH.cons rfl (fun K hK => ?_) AllReadyH.nil
        obtain ⟨y0, y1, q0, q1, q2, q3⟩ := HXdxxx.out.facts2 (wdxx.heap.size) (by simp)
        go_simp
        go_wp2
        have HXdxxxx := Lib.hid ((HXdxxx.out.sub (bs' := [(w.heap.size, 0, .int .i64 n), (w.heap.size, 1, .slice (some ⟨b, off, none⟩) 2 c), (wd.heap.size, 0, .int .i64 0), (wd.heap.size, 1, .int .i64 0)]) (rs' := [(w.heap.size, 2), (w.heap.size + 1, 2), (w.heap.size + 1 + 1, 2), (wd.heap.size, 2), (wdxx.heap.size, 2)]) (is' := []) (es' := [(t5, E.tv z5 A5 n5 c5)]) (by simp) (by simp) (by simp) (by simp)).set2 (wdxx.heap.size) (.int .i64 z5) (.slice A5 n5 c5) (by simp) (by simp only [List.mem_cons, List.not_mem_nil, or_false, forall_eq_or_imp, forall_eq]; omega) (by simp))
        clear q0 q1 q2 q3 HXdxxx
        refine hK.out _ _ (HXdxxxx.out.sub0 (by simp) (by simp)) (fun hS => ?_)
        clear hK K
        generalize (wdxxx.setCell ⟨wdxx.heap.size, 0, none⟩ (.int .i64 z5)).setCell ⟨wdxx.heap.size, 1, none⟩ (.slice A5 n5 c5) = wdxxxx at *
        refine wpAnyH_ready (rs := [13]) (by kernel_rfl) (by simp) ?_
        refine AllReadyH.cons rfl (fun K hK => ?_) AllReadyH.nil
        obtain ⟨y0, y1, q0, q1, q2, q3⟩ := HXdxxxx.out.facts2 (wd.heap.size) (by simp)
        go_simp
        go_wp2
        have HXdxxxxx := Lib.hid ((HXdxxxx.out.sub (bs' := [(w.heap.size, 0, .int .i64 n), (w.heap.size, 1, .slice (some ⟨b, off, none⟩) 2 c), (wdxx.heap.size, 0, (.int .i64 z5)), (wdxx.heap.size, 1, (.slice A5 n5 c5))]) (rs' := [(w.heap.size, 2), (w.heap.size + 1, 2), (w.heap.size + 1 + 1, 2), (wd.heap.size, 2), (wdxx.heap.size, 2)]) (is' := []) (es' := [(t5, E.tv z5 A5 n5 c5)]) (by simp) (by simp) (by simp) (by simp)).set2 (wd.heap.size) (.int .i64 (k1 : Int)) (.int .i64 (k2 : Int)) (by simp) (by simp only [List.mem_cons, List.not_mem_nil, or_false, forall_eq_or_imp, forall_eq]; omega) (by simp))
        clear q0 q1 q2 q3 HXdxxxx
        refine hK.out _ _ (HXdxxxxx.out.sub0 (by simp) (by simp)) (fun hS => ?_)
        clear hK K
        generalize (wdxxxx.setCell ⟨wd.heap.size, 0, none⟩ (.int .i64 (k1 : Int))).setCell ⟨wd.heap.size, 1, none⟩ (.int .i64 (k2 : Int)) = wdxxxxx at *
        try go_simp
        refine wpAnyH_done (by kernel_rfl) ?_ _
        go_wp2_with fail
        go_meet
        exact ⟨wdxx.heap.size, wd.heap.size, z5, A5, n5, c5, rfl, rfl, by omega, by omega, by omega, HXdxxxxx.out.sub (by simp) (by simp) (by simp) (by simp)⟩
      · go_simp
        go_wp2
        have HXdxx' := HXdx.out.two (.int .i64 0) (.slice none 0 0) 27
        have HXdxx := Lib.hid HXdxx'
        clear HXdxx' HXdx
        simp only [List.nil_append, List.cons_append] at HXdxx
        refine hK.out _ _ (HXdxx.out.sub0 (by simp) (by simp)) (fun hS => ?_)
        clear hK K
        have szwdxx : wdx.heap.size < (wdx.alloc (.cells #[.int .i64 0, .slice none 0 0] 27)).heap.size := by simp
        generalize wdx.alloc (.cells #[.int .i64 0, .slice none 0 0] 27) = wdxx at *
        refine wpAnyH_ready (rs := [6]) (by kernel_rfl) (by simp) ?_
        refine AllReadyH.cons rfl (fun K hK => ?_) AllReadyH.nil
        have hcall := CAL.out wdxx (E.tv oa Aa na ca) HXdxx.out.bel (E.InP.up EX.out HXdxx.out.bel)
        unfold E.tv at hcall
        go_simp
        go_wp2_with fail
        refine hcall.mono ?_
        rintro e wdxxx ⟨v5, rfl, ht5, hbx⟩
        obtain ⟨A5, n5, c5, rfl⟩ := E.InP.form ht5
        simp only at ht5 ⊢
        obtain ⟨z5, hz5⟩ : ∃ z5, t5.N = z5 := ⟨_, rfl⟩
        rw [hz5] at ht5 ⊢
        clear hz5
        have HXdxxx := Lib.hid ((HXdxx.out.next hbx).e ht5)
        have szwdxxx : wdxx.heap.size ≤ wdxxx.heap.size := hbx.size
        clear hcall ht5 hbx HXdxx
        unfold E.tv cv
        refine hK.out _ _ (HXdxxx.out.sub0 (by simp) (by simp)) (fun hS => ?_)
        clear hK K
        refine wpAnyH_take (i := 7) (v := ?_) rfl (by kernel_rfl) (by kernel_rfl) (by kernel_rfl) (fun _ _ _ h => h) (Yields.yieldsIf (Or.inl ⟨by kernel_rfl, ?_⟩)) hS ?_
        rotate_left
        · first | (intro w; go_simp; done) | (intro w; go_simp; with_reducible rfl)
        refine wpAnyH_take (i := 8) (v := ?_) rfl (by kernel_rfl) (by kernel_rfl) (by kernel_rfl) (fun _ _ _ h => h) (Yields.yieldsIf (Or.inl ⟨by kernel_rfl, ?_⟩)) hS ?_
        rotate_left
        · first | (intro w; go_simp; done) | (intro w; go_simp; with_reducible rfl)
        refine wpAnyH_take (i := 9) (v := ?_) rfl (by kernel_rfl) (by kernel_rfl) (by kernel_rfl) (fun _ _ _ h => h) (Yields.yieldsIf (Or.inl ⟨by kernel_rfl, ?_⟩)) hS ?_
        rotate_left
        · first | (intro w; go_simp; done) | (intro w; go_simp; with_reducible rfl)
        refine wpAnyH_ready (rs := [12]) (by kernel_rfl) (by simp) ?_
        refine AllReadyH.cons rfl (fun K hK => ?_) AllReadyH.nil
        obtain ⟨y0, y1, q0, q1, q2, q3⟩ := HXdxxx.out.facts2 (wdx.heap.size) (by simp)
        go_simp
        go_wp2
        have HXdxxxx := Lib.hid ((HXdxxx.out.sub (bs' := [(w.heap.size, 0, .int .i64 n), (w.heap.size, 1, .slice (some ⟨b, off, none⟩) 2 c), (wd.heap.size, 0, .int .i64 0), (wd.heap.size, 1, .int .i64 0)]) (rs' := [(w.heap.size, 2), (w.heap.size + 1, 2), (w.heap.size + 1 + 1, 2), (wd.heap.size, 2), (wdx.heap.size, 2)]) (is' := []) (es' := [(t5, E.tv z5 A5 n5 c5)]) (by simp) (by simp) (by simp) (by simp)).set2 (wdx.heap.size) (.int .i64 z5) (.slice A5 n5 c5) (by simp) (by simp only [List.mem_cons, List.not_mem_nil, or_false, forall_eq_or_imp, forall_eq]; omega) (by simp))
        clear q0 q1 q2 q3 HXdxxx
        refine hK.out _ _ (HXdxxxx.out.sub0 (by simp) (by simp)) (fun hS => ?_)
        clear hK K
        generalize (wdxxx.setCell ⟨wdx.heap.size, 0, none⟩ (.int .i64 z5)).setCell ⟨wdx.heap.size, 1, none⟩ (.slice A5 n5 c5) = wdxxxx at *
        refine wpAnyH_ready (rs := [13]) (by kernel_rfl) (by simp) ?_
        refine AllReadyH.cons rfl (fun K hK => ?_) AllReadyH.nil
        obtain ⟨y0, y1, q0, q1, q2, q3⟩ := HXdxxxx.out.facts2 (wd.heap.size) (by simp)
        go_simp
        go_wp2
        have HXdxxxxx := Lib.hid ((HXdxxxx.out.sub (bs' := [(w.heap.size, 0, .int .i64 n), (w.heap.size, 1, .slice (some ⟨b, off, none⟩) 2 c), (wdx.heap.size, 0, (.int .i64 z5)), (wdx.heap.size, 1, (.slice A5 n5 c5))]) (rs' := [(w.heap.size, 2), (w.heap.size + 1, 2), (w.heap.size + 1 + 1, 2), (wd.heap.size, 2), (wdx.heap.size, 2)]) (is' := []) (es' := [(t5, E.tv z5 A5 n5 c5)]) (by simp) (by simp) (by simp) (by simp)).set2 (wd.heap.size) (.int .i64 (k1 : Int)) (.int .i64 (k2 : Int)) (by simp) (by simp only [List.mem_cons, List.not_mem_nil, or_false, forall_eq_or_imp, forall_eq]; omega) (by simp))
        clear q0 q1 q2 q3 HXdxxxx
        refine hK.out _ _ (HXdxxxxx.out.sub0 (by simp) (by simp)) (fun hS => ?_)
        clear hK K
        generalize (wdxxxx.setCell ⟨wd.heap.size, 0, none⟩ (.int .i64 (k1 : Int))).setCell ⟨wd.heap.size, 1, none⟩ (.int .i64 (k2 : Int)) = wdxxxxx at *
        try go_simp
        refine wpAnyH_done (by kernel_rfl) ?_ _
        go_wp2_with fail
        go_meet
        exact ⟨wdx.heap.size, wd.heap.size, z5, A5, n5, c5, rfl, rfl, by omega, by omega, by omega, HXdxxxxx.out.sub (by simp) (by simp) (by simp) (by simp)⟩
  case rest =>
  obtain ⟨g6, g7, z5, A5, n5, c5, rfl, rfl, n6, n7, n67, hX⟩ := hcut
  have l6 : g6 < wc.heap.size := (hX.box (g6, 2) (by simp)).1.lt
  have l7 : g7 < wc.heap.size := (hX.box (g7, 2) (by simp)).1.lt
  have HX1 := Lib.hid hX
  clear hX HX0
  go_upto_region 2 with fail
  go_cut [8] (fun s8 wx => ∃ g8 g9 : Nat, s8 = .pointer (some ⟨g8, 0, none⟩) ∧ wc.heap.size ≤ g8 ∧ wc.heap.size ≤ g9 ∧ g8 ≠ g9 ∧ SX w [(w.heap.size, 0, .int .i64 n), (w.heap.size, 1, .slice (some ⟨b, off, none⟩) 2 c), (g6, 0, .int .i64 z5), (g6, 1, .slice A5 n5 c5), (g7, 0, .int .i64 (k1 : Int)), (g7, 1, .int .i64 (k2 : Int)), (g8, 0, .int .i64 n), (g8, 1, .slice (some ⟨g9, 0, none⟩) 2 2)] [(w.heap.size, 2), (w.heap.size + 1, 2), (w.heap.size + 1 + 1, 2), (g6, 2), (g7, 2), (g8, 2)] [] [] wx ∧ Ext g9 #[.int .i64 oa, .slice Aa na ca, .int .i64 ob, .slice Ab nb cb] t5 (E.tv z5 A5 n5 c5) y (E.tv ob Ab nb cb) wx)
  case first =>
    refine wp_region_held_drew (S := fun W => SX w [(w.heap.size, 0, .int .i64 n), (w.heap.size, 1, .slice (some ⟨b, off, none⟩) 2 c)] [(w.heap.size, 2), (w.heap.size + 1, 2), (w.heap.size + 1 + 1, 2)] [] [] W) (by kernel_rfl) ((HX1.out.drew).sub0 (by simp) (by simp)) (fun hS => ?_)
    have HXd := Lib.hid (HX1.out.drew)
    have sd : wc.heap.size ≤ wc.drew.heap.size := by simp
    clear HX1
    generalize wc.drew = wd at *
    refine wpAnyH_take (i := 0) (v := ?_) rfl (by kernel_rfl) (by kernel_rfl) (by kernel_rfl) (fun _ _ _ h => h) (Yields.yieldsIf (Or.inl ⟨by kernel_rfl, ?_⟩)) hS ?_
    rotate_left
    · first | (intro w; go_simp; done) | (intro w; go_simp; with_reducible rfl)
    refine wpAnyH_take (i := 1) (v := ?_) rfl (by kernel_rfl) (by kernel_rfl) (by kernel_rfl) (fun _ _ _ h => h) (Or.inl ⟨by kernel_rfl, fun W hW => ?_⟩) hS ?_
    rotate_left
    · obtain ⟨a0, a1, a2, a3, a4, a5⟩ := HO.out W hW.bel
      have f := hW.at0
      simp only [List.mem_cons, List.not_mem_nil, or_false, forall_eq_or_imp, forall_eq] at f
      obtain ⟨p0, p1⟩ := f
      first | (go_simp; done) | (go_simp; with_reducible rfl)
    refine wpAnyH_take (i := 2) (v := ?_) rfl (by kernel_rfl) (by kernel_rfl) (by kernel_rfl) (fun _ _ _ h => h) (Yields.yieldsIf (Or.inl ⟨by kernel_rfl, ?_⟩)) hS ?_
    rotate_left
    · first | (intro w; go_simp; done) | (intro w; go_simp; with_reducible rfl)
    refine wpAnyH_take (i := 3) (v := ?_) rfl (by kernel_rfl) (by kernel_rfl) (by kernel_rfl) (fun _ _ _ h => h) (Or.inl ⟨by kernel_rfl, fun W hW => ?_⟩) hS ?_
    rotate_left
    · obtain ⟨a0, a1, a2, a3, a4, a5⟩ := HO.out W hW.bel
      have f := hW.at0
      simp only [List.mem_cons, List.not_mem_nil, or_false, forall_eq_or_imp, forall_eq] at f
      obtain ⟨p0, p1⟩ := f
      first | (go_simp; done) | (go_simp; with_reducible rfl)
    refine wpAnyH_take (i := 4) (v := ?_) rfl (by kernel_rfl) (by kernel_rfl) (by kernel_rfl) (fun _ _ _ h => h) (Yields.yieldsIf (Or.inl ⟨by kernel_rfl, ?_⟩)) hS ?_
    rotate_left
    · first | (intro w; go_simp; done) | (intro w; go_simp; with_reducible rfl)
    refine wpAnyH_take (i := 5) (v := ?_) rfl (by kernel_rfl) (by kernel_rfl) (by kernel_rfl) (fun _ _ _ h => h) (Or.inl ⟨by kernel_rfl, fun W hW => ?_⟩) hS ?_
    rotate_left
    · obtain ⟨a0, a1, a2, a3, a4, a5⟩ := HO.out W hW.bel
      have f := hW.at0
      simp only [List.mem_cons, List.not_mem_nil, or_false, forall_eq_or_imp, forall_eq] at f
      obtain ⟨p0, p1⟩ := f
      first | (go_simp; done) | (go_simp; with_reducible rfl)
    refine wpAnyH_take (i := 6) (v := ?_) rfl (by kernel_rfl) (by kernel_rfl) (by kernel_rfl) (fun _ _ _ h => h) (Yields.yieldsIf (Or.inl ⟨by kernel_rfl, ?_⟩)) hS ?_
    rotate_left
    · first | (intro w; go_simp; done) | (intro w; go_simp; with_reducible rfl)
    refine wpAnyH_take (i := 7) (v := ?_) rfl (by kernel_rfl) (by kernel_rfl) (by kernel_rfl) (fun _ _ _ h => h) (Or.inl ⟨by kernel_rfl, fun W hW => ?_⟩) hS ?_
    rotate_left
    · obtain ⟨a0, a1, a2, a3, a4, a5⟩ := HO.out W hW.bel
      have f := hW.at0
      simp only [List.mem_cons, List.not_mem_nil, or_false, forall_eq_or_imp, forall_eq] at f
      obtain ⟨p0, p1⟩ := f
      first | (go_simp; done) | (go_simp; with_reducible rfl)
    refine wpAnyH_take (i := 8) (v := ?_) rfl (by kernel_rfl) (by kernel_rfl) (by kernel_rfl) (fun _ _ _ h => h) (Yields.yieldsIf (Or.inl ⟨by kernel_rfl, ?_⟩)) hS ?_
    rotate_left
    · first | (intro w; go_simp; done) | (intro w; go_simp; with_reducible rfl)
    refine wpAnyH_take (i := 9) (v := ?_) rfl (by kernel_rfl) (by kernel_rfl) (by kernel_rfl) (fun _ _ _ h => h) (Or.inl ⟨by kernel_rfl, fun W hW => ?_⟩) hS ?_
    rotate_left
    · obtain ⟨a0, a1, a2, a3, a4, a5⟩ := HO.out W hW.bel
      have f := hW.at0
      simp only [List.mem_cons, List.not_mem_nil, or_false, forall_eq_or_imp, forall_eq] at f
      obtain ⟨p0, p1⟩ := f
      first | (go_simp; done) | (go_simp; with_reducible rfl)
    refine wpAnyH_ready (rs := [10, 11]) (by kernel_rfl) (by simp) ?_
    refine AllReadyH.cons rfl (fun K hK => ?_) (AllReadyH.cons rfl (fun K hK => ?_) AllReadyH.nil)
    · have hcall := snode_new n oa Aa na ca ob Ab nb cb wd
      unfold E.tv at hcall
      go_simp
      go_wp2_with fail
      refine hcall.mono ?_
      rintro e wdx ⟨g9, rfl, hblk, hg9, hbx⟩
      have hext : Ext g9 #[.int .i64 oa, .slice Aa na ca, .int .i64 ob, .slice Ab nb cb] t5 (E.tv z5 A5 n5 c5) y (E.tv ob Ab nb cb) wdx := ⟨hblk, (E.InP.below (HXd.out.eget (by simp)) hbx).more fun b hb => Nat.lt_of_lt_of_le hb hg9, (E.InP.below (E.InP.up EY.out HXd.out.bel) hbx).more fun b hb => Nat.lt_of_lt_of_le hb hg9⟩
      have HE := Lib.hid hext
      have l9 : g9 < wdx.heap.size := hext.lt
      have HXdx := Lib.hid (HXd.out.next hbx)
      have szwdx : wd.heap.size ≤ wdx.heap.size := hbx.size
      clear hcall hbx HXd hblk hext
      unfold E.tv
      refine hK.out _ _ (HXdx.out.sub0 (by simp) (by simp)) (fun hS => ?_)
      clear hK K
      refine wpAnyH_ready (rs := [11]) (by kernel_rfl) (by simp) ?_
      refine AllReadyH.cons rfl (fun K hK => ?_) AllReadyH.nil
      go_simp
      go_wp2
      have HXdxx' := HXdx.out.two (.int .i64 0) (.slice none 0 0) 27
      have HXdxx := Lib.hid HXdxx'
      clear HXdxx' HXdx
      simp only [List.nil_append, List.cons_append] at HXdxx
      have HEx := Lib.hid (HE.out.next ((Below.refl wdx.heap.size wdx).alloc (Nat.le_refl _) (.cells #[.int .i64 0, .slice none 0 0] 27)))
      clear HE
      refine hK.out _ _ (HXdxx.out.sub0 (by simp) (by simp)) (fun hS => ?_)
      clear hK K
      have szwdxx : wdx.heap.size < (wdx.alloc (.cells #[.int .i64 0, .slice none 0 0] 27)).heap.size := by simp
      generalize wdx.alloc (.cells #[.int .i64 0, .slice none 0 0] 27) = wdxx at *
      refine wpAnyH_ready (rs := [12]) (by kernel_rfl) (by simp) ?_
      refine AllReadyH.cons rfl (fun K hK => ?_) AllReadyH.nil
      obtain ⟨y0, y1, q0, q1, q2, q3⟩ := HXdxx.out.facts2 (wdx.heap.size) (by simp)
      go_simp
      go_wp2
      have HXdxxx := Lib.hid ((HXdxx.out.sub0 (bs' := [(w.heap.size, 0, .int .i64 n), (w.heap.size, 1, .slice (some ⟨b, off, none⟩) 2 c), (g6, 0, .int .i64 z5), (g6, 1, .slice A5 n5 c5), (g7, 0, .int .i64 (k1 : Int)), (g7, 1, .int .i64 (k2 : Int))]) (rs' := [(w.heap.size, 2), (w.heap.size + 1, 2), (w.heap.size + 1 + 1, 2), (g6, 2), (g7, 2), (wdx.heap.size, 2)]) (by simp) (by simp)).set2 (wdx.heap.size) (.int .i64 n) (.slice (some ⟨g9, 0, none⟩) 2 2) (by simp) (by simp only [List.mem_cons, List.not_mem_nil, or_false, forall_eq_or_imp, forall_eq]; omega) (by simp))
      have HE9 := Lib.hid (HEx.out.store2 (u := .int .i64 n) (v := .slice (some ⟨g9, 0, none⟩) 2 2) (HXdxx.out.box (wdx.heap.size, 2) (by simp)).1 (by omega))
      clear q0 q1 q2 q3 HXdxx HEx
      refine hK.out _ _ (HXdxxx.out.sub0 (by simp) (by simp)) (fun hS => ?_)
      clear hK K
      generalize (wdxx.setCell ⟨wdx.heap.size, 0, none⟩ (.int .i64 n)).setCell ⟨wdx.heap.size, 1, none⟩ (.slice (some ⟨g9, 0, none⟩) 2 2) = wdxxx at *
      try go_simp
      refine wpAnyH_done (by kernel_rfl) ?_ _
      go_wp2_with fail
      go_meet
      exact ⟨wdx.heap.size, g9, rfl, by omega, by omega, by omega, HXdxxx.out.sub0 (by simp) (by simp), HE9.out⟩
    · go_simp
      go_wp2
      have HXdx' := HXd.out.two (.int .i64 0) (.slice none 0 0) 27
      have HXdx := Lib.hid HXdx'
      clear HXdx' HXd
      simp only [List.nil_append, List.cons_append] at HXdx
      refine hK.out _ _ (HXdx.out.sub0 (by simp) (by simp)) (fun hS => ?_)
      clear hK K
      have szwdx : wd.heap.size < (wd.alloc (.cells #[.int .i64 0, .slice none 0 0] 27)).heap.size := by simp
      generalize wd.alloc (.cells #[.int .i64 0, .slice none 0 0] 27) = wdx at *
      refine wpAnyH_ready (rs := [10]) (by kernel_rfl) (by simp) ?_
      refine AllReadyH.cons rfl (fun K hK => ?_) AllReadyH.nil
      have hcall := snode_new n oa Aa na ca ob Ab nb cb wdx
      unfold E.tv at hcall
      go_simp
      go_wp2_with fail
      refine hcall.mono ?_
      rintro e wdxx ⟨g9, rfl, hblk, hg9, hbx⟩
      have hext : Ext g9 #[.int .i64 oa, .slice Aa na ca, .int .i64 ob, .slice Ab nb cb] t5 (E.tv z5 A5 n5 c5) y (E.tv ob Ab nb cb) wdxx := ⟨hblk, (E.InP.below (HXdx.out.eget (by simp)) hbx).more fun b hb => Nat.lt_of_lt_of_le hb hg9, (E.InP.below (E.InP.up EY.out HXdx.out.bel) hbx).more fun b hb => Nat.lt_of_lt_of_le hb hg9⟩
      have HE := Lib.hid hext
      have l9 : g9 < wdxx.heap.size := hext.lt
      have HXdxx := Lib.hid (HXdx.out.next hbx)
      have szwdxx : wdx.heap.size ≤ wdxx.heap.size := hbx.size
      clear hcall hbx HXdx hblk hext
      unfold E.tv
      refine hK.out _ _ (HXdxx.out.sub0 (by simp) (by simp)) (fun hS => ?_)
      clear hK K
      refine wpAnyH_ready (rs := [12]) (by kernel_rfl) (by simp) ?_
      refine AllReadyH.cons rfl (fun K hK => ?_) AllReadyH.nil
      obtain ⟨y0, y1, q0, q1, q2, q3⟩ := HXdxx.out.facts2 (wd.heap.size) (by simp)
      go_simp
      go_wp2
      have HXdxxx := Lib.hid ((HXdxx.out.sub0 (bs' := [(w.heap.size, 0, .int .i64 n), (w.heap.size, 1, .slice (some ⟨b, off, none⟩) 2 c), (g6, 0, .int .i64 z5), (g6, 1, .slice A5 n5 c5), (g7, 0, .int .i64 (k1 : Int)), (g7, 1, .int .i64 (k2 : Int))]) (rs' := [(w.heap.size, 2), (w.heap.size + 1, 2), (w.heap.size + 1 + 1, 2), (g6, 2), (g7, 2), (wd.heap.size, 2)]) (by simp) (by simp)).set2 (wd.heap.size) (.int .i64 n) (.slice (some ⟨g9, 0, none⟩) 2 2) (by simp) (by simp only [List.mem_cons, List.not_mem_nil, or_false, forall_eq_or_imp, forall_eq]; omega) (by simp))
      have HE9 := Lib.hid (HE.out.store2 (u := .int .i64 n) (v := .slice (some ⟨g9, 0, none⟩) 2 2) (HXdxx.out.box (wd.heap.size, 2) (by simp)).1 (by omega))
      clear q0 q1 q2 q3 HXdxx HE
      refine hK.out _ _ (HXdxxx.out.sub0 (by simp) (by simp)) (fun hS => ?_)
      clear hK K
      generalize (wdxx.setCell ⟨wd.heap.size, 0, none⟩ (.int .i64 n)).setCell ⟨wd.heap.size, 1, none⟩ (.slice (some ⟨g9, 0, none⟩) 2 2) = wdxxx at *
      try go_simp
      refine wpAnyH_done (by kernel_rfl) ?_ _
      go_wp2_with fail
      go_meet
      exact ⟨wd.heap.size, g9, rfl, by omega, by omega, by omega, HXdxxx.out.sub0 (by simp) (by simp), HE9.out⟩
  case rest =>
  obtain ⟨g8, g9, rfl, n8, n9, n89, hX, hE⟩ := hcut
  have HX2 := Lib.hid hX
  have n9' : w.heap.size + 3 ≤ g9 := by omega
  have n8' : w.heap.size + 3 ≤ g8 := by omega
  have n69 : g6 ≠ g9 := by omega
  have n79 : g7 ≠ g9 := by omega
  have n68 : g6 ≠ g8 := by omega
  have n78 : g7 ≠ g8 := by omega
  have hput := hE.put1 (n := n)
  have HX3 := Lib.hid (((HX2.out.far g9 0 (.int .i64 z5) (by omega) (by simp only [List.mem_cons, List.not_mem_nil, or_false, forall_eq_or_imp, forall_eq]; omega) (by simp only [List.mem_cons, List.not_mem_nil, or_false, forall_eq_or_imp, forall_eq]; omega)).far g9 1 (.slice A5 n5 c5) (by omega) (by simp only [List.mem_cons, List.not_mem_nil, or_false, forall_eq_or_imp, forall_eq]; omega) (by simp only [List.mem_cons, List.not_mem_nil, or_false, forall_eq_or_imp, forall_eq]; omega)).e hput)
  have q0 := hE.cell 0
  have q1 := hE.cell 1
  have q2 := hE.thaw 0
  have q3 := hE.thaw 1
  simp at q0 q1
  clear hput hE HX1 l6 l7 n8 n9
  obtain ⟨a0, a1, a2, a3, a4, a5⟩ := HO.out wc HX2.out.bel
  have f := HX2.out.at0
  simp only [List.mem_cons, List.not_mem_nil, or_false, forall_eq_or_imp, forall_eq] at f
  obtain ⟨p0, p1, p2, p3, p4, p5, p6, p7⟩ := f
  clear HX2 hX
  go_upto_region 4 with fail
  generalize (wc.setCell ⟨g9, 0, none⟩ (.int .i64 z5)).setCell ⟨g9, 1, none⟩ (.slice A5 n5 c5) = w3 at *
  clear a0 a1 a2 a3 a4 a5 p0 p1 p2 p3 p4 p5 p6 p7 q0 q1 q2 q3
  obtain ⟨y0, y1, q0, q1, q2, q3⟩ := HX3.out.facts2 g7 (by simp)
  have f := HX3.out.at0
  simp only [List.mem_cons, List.not_mem_nil, or_false, forall_eq_or_imp, forall_eq] at f
  obtain ⟨p0, p1, p2, p3, p4, p5, p6, p7⟩ := f
  have HX4 := Lib.hid ((HX3.out.sub (bs' := [(g8, 0, .int .i64 n), (g8, 1, .slice (some ⟨g9, 0, none⟩) 2 2), (g7, 0, .int .i64 (k1 : Int))]) (rs' := [(w.heap.size, 2), (w.heap.size + 1, 2), (w.heap.size + 1 + 1, 2), (g6, 2), (g7, 2), (g8, 2)]) (is' := []) (es' := [(.node n t5 y, E.tv n (some ⟨g9, 0, none⟩) 2 2)]) (by simp) (by simp) (by simp) (by simp)).put g7 2 1 (.int .i64 ((k2 : Int) + 1)) (by simp) ⟨by omega, .inl (by omega)⟩ (by simp only [List.mem_cons, List.not_mem_nil, or_false, forall_eq_or_imp, forall_eq]; omega) (by simp))
  clear HX3 q0 q1
  go_upto_region 5 with fail
  generalize w3.setCell ⟨g7, 1, none⟩ (.int .i64 ((k2 : Int) + 1)) = w4 at *
  clear p0 p1 p2 p3 p4 p5 p6 p7 q2 q3
  refine wp_region_held_drew (S := fun W => SX w [(g8, 0, .int .i64 n), (g8, 1, .slice (some ⟨g9, 0, none⟩) 2 2), (g7, 0, .int .i64 (k1 : Int)), (g7, 1, .int .i64 ((k2 : Int) + 1))] [(w.heap.size, 2), (w.heap.size + 1, 2), (w.heap.size + 1 + 1, 2), (g6, 2), (g7, 2), (g8, 2)] [] [(.node n t5 y, E.tv n (some ⟨g9, 0, none⟩) 2 2)] W) (by kernel_rfl) ((HX4.out.drew).sub (by simp) (by simp) (by simp) (by simp)) (fun hS => ?_)
  have HXd := Lib.hid (HX4.out.drew)
  clear HX4
  generalize w4.drew = wd at *
  refine wpAnyH_take (i := 0) (v := ?_) rfl (by kernel_rfl) (by kernel_rfl) (by kernel_rfl) (fun _ _ _ h => h) (Or.inl ⟨by kernel_rfl, fun W hW => ?_⟩) hS ?_
  rotate_left
  · have f := hW.at0
    simp only [List.mem_cons, List.not_mem_nil, or_false, forall_eq_or_imp, forall_eq] at f
    obtain ⟨p0, p1, p2, p3⟩ := f
    first | (go_simp; done) | (go_simp; with_reducible rfl)
  refine wpAnyH_take (i := 1) (v := ?_) rfl (by kernel_rfl) (by kernel_rfl) (by kernel_rfl) (fun _ _ _ h => h) (Or.inl ⟨by kernel_rfl, fun W hW => ?_⟩) hS ?_
  rotate_left
  · have f := hW.at0
    simp only [List.mem_cons, List.not_mem_nil, or_false, forall_eq_or_imp, forall_eq] at f
    obtain ⟨p0, p1, p2, p3⟩ := f
    first | (go_simp; done) | (go_simp; with_reducible rfl)
  refine wpAnyH_ready (rs := [2]) (by kernel_rfl) (by simp) ?_
  refine AllReadyH.cons rfl (fun K hK => ?_) AllReadyH.nil
  obtain ⟨y0, y1, q0, q1, q2, q3⟩ := HXd.out.facts2 (w.heap.size + 1) (by simp)
  go_simp
  go_wp2
  have HXdx := Lib.hid ((HXd.out.sub (bs' := [(g8, 0, .int .i64 n), (g8, 1, .slice (some ⟨g9, 0, none⟩) 2 2), (g7, 0, .int .i64 (k1 : Int)), (g7, 1, .int .i64 ((k2 : Int) + 1))]) (rs' := [(w.heap.size, 2), (w.heap.size + 1, 2), (w.heap.size + 1 + 1, 2), (g6, 2), (g7, 2), (g8, 2)]) (is' := []) (es' := [(.node n t5 y, E.tv n (some ⟨g9, 0, none⟩) 2 2)]) (by simp) (by simp) (by simp) (by simp)).set2 (w.heap.size + 1) (.int .i64 n) (.slice (some ⟨g9, 0, none⟩) 2 2) (by simp) (by simp only [List.mem_cons, List.not_mem_nil, or_false, forall_eq_or_imp, forall_eq]; omega) (by simp))
  clear q0 q1 q2 q3 HXd
  refine hK.out _ _ (HXdx.out.sub (by simp) (by simp) (by simp) (by simp)) (fun hS => ?_)
  clear hK K
  generalize (wd.setCell ⟨w.heap.size + 1, 0, none⟩ (.int .i64 n)).setCell ⟨w.heap.size + 1, 1, none⟩ (.slice (some ⟨g9, 0, none⟩) 2 2) = wdx at *
  refine wpAnyH_ready (rs := [3]) (by kernel_rfl) (by simp) ?_
  refine AllReadyH.cons rfl (fun K hK => ?_) AllReadyH.nil
  obtain ⟨y0, y1, q0, q1, q2, q3⟩ := HXdx.out.facts2 (w.heap.size + 1 + 1) (by simp)
  go_simp
  go_wp2
  have HXdxx := Lib.hid ((HXdx.out.sub (bs' := [(g8, 0, .int .i64 n), (g8, 1, .slice (some ⟨g9, 0, none⟩) 2 2), (g7, 0, .int .i64 (k1 : Int)), (g7, 1, .int .i64 ((k2 : Int) + 1)), (w.heap.size + 1, 0, (.int .i64 n)), (w.heap.size + 1, 1, (.slice (some ⟨g9, 0, none⟩) 2 2))]) (rs' := [(w.heap.size, 2), (w.heap.size + 1, 2), (w.heap.size + 1 + 1, 2), (g6, 2), (g7, 2), (g8, 2)]) (is' := []) (es' := [(.node n t5 y, E.tv n (some ⟨g9, 0, none⟩) 2 2)]) (by simp) (by simp) (by simp) (by simp)).set2 (w.heap.size + 1 + 1) (.int .i64 (k1 : Int)) (.int .i64 ((k2 : Int) + 1)) (by simp) (by simp only [List.mem_cons, List.not_mem_nil, or_false, forall_eq_or_imp, forall_eq]; omega) (by simp))
  clear q0 q1 q2 q3 HXdx
  refine hK.out _ _ (HXdxx.out.sub (by simp) (by simp) (by simp) (by simp)) (fun hS => ?_)
  clear hK K
  generalize (wdx.setCell ⟨w.heap.size + 1 + 1, 0, none⟩ (.int .i64 (k1 : Int))).setCell ⟨w.heap.size + 1 + 1, 1, none⟩ (.int .i64 ((k2 : Int) + 1)) = wdxx at *
  try go_simp
  refine wpAnyH_done (by kernel_rfl) ?_ _
  have f := HXdxx.out.at0
  simp only [List.mem_cons, List.not_mem_nil, or_false, forall_eq_or_imp, forall_eq] at f
  obtain ⟨p0, p1, p2, p3, p4, p5, p6, p7⟩ := f
  go_wp2
  refine bodyPost_ret (v := .tuple #[E.tv n (some ⟨g9, 0, none⟩) 2 2, cv (k1, k2 + 1)]) (by simp [results, Tryz.f162, go_sem, E.tv, cv, *]) rfl ?_
  exact ⟨_, rfl, HXdxx.out.eget (by simp), HXdxx.out.bel⟩

set_option maxRecDepth 100000 in
set_option maxHeartbeats 12800000 in
theorem at1_any {f : E.Tr → E.Tr × Cost} {D : E.Tr → Prop} {x y : E.Tr} {G : Value} {gG gK b off c : Nat} {n oa ob : Int} {Aa Ab : Option Addr} {na ca nb cb : Nat} (w : World)
    (j0 : w.cell? ⟨gG, 0, none⟩ = some G) (j1 : w.cell? ⟨gK, 0, none⟩ = some (.int .i64 1)) (h : RunC w D f G)
    (e0 : w.cell? ⟨b, off, none⟩ = some (.int .i64 oa)) (e1 : w.cell? ⟨b, off + 1, none⟩ = some (.slice Aa na ca)) (e2 : w.cell? ⟨b, off + 2, none⟩ = some (.int .i64 ob)) (e3 : w.cell? ⟨b, off + 3, none⟩ = some (.slice Ab nb cb))
    (ex : ET w x (E.tv oa Aa na ca)) (ey : ET w y (E.tv ob Ab nb cb)) (hd : D y) (hk : (f y).2.2 ≤ 1000000) :
    Calls Tryz.prog 162 #[E.tv n (some ⟨b, off, none⟩) 2 c, .pointer (some ⟨gG, 0, none⟩), .pointer (some ⟨gK, 0, none⟩)] w (GrowI (.node n x (f y).1, ((f y).2.1, (f y).2.2 + 1)) w) := by
  obtain ⟨fn, caps, rfl, en, cal⟩ := h
  have cal' : ∀ (W : World) (v : Value), Below w.heap.size w W → ET W y v → Calls Tryz.prog fn (#[v] ++ caps) W (GrowI (f y) W) := fun W v hb hv => cal W y v hb hv hd
  clear cal hd
  generalize f y = r5 at *
  obtain ⟨t5, k1, k2⟩ := r5
  have hw2 : IntKind.i64.wrap ((k2 : Int) + 1) = (k2 : Int) + 1 := E.wrap_id (by omega) (by simp only at hk; omega)
  clear hk
  have HX0 := Lib.hid ((((SX.begin w).two (.int .i64 n) (.slice (some ⟨b, off, none⟩) 2 c) 27).two (.int .i64 0) (.slice none 0 0) 27).two (.int .i64 0) (.int .i64 0) 57)
  simp only [List.nil_append, List.cons_append, World.size_alloc] at HX0
  have lG : gG < w.heap.size := World.block_lt_of_cell? w _ j0
  have lK : gK < w.heap.size := World.block_lt_of_cell? w _ j1
  have lb : b < w.heap.size := World.block_lt_of_cell? w _ e0
  have HO : Hid (∀ W, Below w.heap.size w W → W.cell? ⟨gG, 0, none⟩ = some (.func (.func fn) #[] caps) ∧ W.cell? ⟨gK, 0, none⟩ = some (.int .i64 1) ∧ W.cell? ⟨b, off, none⟩ = some (.int .i64 oa) ∧ W.cell? ⟨b, off + 1, none⟩ = some (.slice Aa na ca) ∧ W.cell? ⟨b, off + 2, none⟩ = some (.int .i64 ob) ∧ W.cell? ⟨b, off + 3, none⟩ = some (.slice Ab nb cb)) :=
    fun W hb => ⟨(hb.cell lG).trans j0, (hb.cell lK).trans j1, (hb.cell lb).trans e0, (hb.cell lb).trans e1, (hb.cell lb).trans e2, (hb.cell lb).trans e3⟩
  have EX := Lib.hid ex
  have EY := Lib.hid ey
  have CAL := Lib.hid cal'
  have s0 : w.heap.size + 3 ≤ ((((w.alloc (.cells #[.int .i64 n, .slice (some ⟨b, off, none⟩) 2 c] 27)).alloc (.cells #[.int .i64 0, .slice none 0 0] 27)).alloc (.cells #[.int .i64 0, .int .i64 0] 57))).heap.size := by simp
  clear j0 j1 e0 e1 e2 e3 ex ey cal' lG lK lb
  unfold E.tv
  go_enter Tryz.func162, Tryz.ntmps162
  go_upto_region 1 with fail
  generalize (((w.alloc (.cells #[.int .i64 n, .slice (some ⟨b, off, none⟩) 2 c] 27)).alloc (.cells #[.int .i64 0, .slice none 0 0] 27)).alloc (.cells #[.int .i64 0, .int .i64 0] 57)) = w1 at *
  go_cut [6, 7] (fun s6 s7 wx => ∃ (g6 g7 : Nat) (z5 : Int) (A5 : Option Addr) (n5 c5 : Nat), s6 = .pointer (some ⟨g6, 0, none⟩) ∧ s7 = .pointer (some ⟨g7, 0, none⟩) ∧ w.heap.size + 3 ≤ g6 ∧ w.heap.size + 3 ≤ g7 ∧ g6 ≠ g7 ∧ SX w [(w.heap.size, 0, .int .i64 n), (w.heap.size, 1, .slice (some ⟨b, off, none⟩) 2 c), (g6, 0, .int .i64 z5), (g6, 1, .slice A5 n5 c5), (g7, 0, .int .i64 (k1 : Int)), (g7, 1, .int .i64 (k2 : Int))] [(w.heap.size, 2), (w.heap.size + 1, 2), (w.heap.size + 1 + 1, 2), (g6, 2), (g7, 2)] [] [(t5, E.tv z5 A5 n5 c5)] wx)
  case first =>
    refine wp_region_held_drew (S := fun W => SX w [(w.heap.size, 0, .int .i64 n), (w.heap.size, 1, .slice (some ⟨b, off, none⟩) 2 c)] [(w.heap.size, 2), (w.heap.size + 1, 2), (w.heap.size + 1 + 1, 2)] [] [] W) (by kernel_rfl) ((HX0.out.drew).sub0 (by simp) (by simp)) (fun hS => ?_)
    have HXd := Lib.hid ((HX0.out.drew).sub0 (bs' := [(w.heap.size, 0, .int .i64 n), (w.heap.size, 1, .slice (some ⟨b, off, none⟩) 2 c)]) (rs' := [(w.heap.size, 2), (w.heap.size + 1, 2), (w.heap.size + 1 + 1, 2)]) (by simp) (by simp))
    have sd : w.heap.size + 3 ≤ w1.drew.heap.size := by simpa using s0
    clear HX0
    generalize w1.drew = wd at *
    refine wpAnyH_take (i := 0) (v := ?_) rfl (by kernel_rfl) (by kernel_rfl) (by kernel_rfl) (fun _ _ _ h => h) (Or.inl ⟨by kernel_rfl, fun W hW => ?_⟩) hS ?_
    rotate_left
    · obtain ⟨a0, a1, a2, a3, a4, a5⟩ := HO.out W hW.bel
      have f := hW.at0
      simp only [List.mem_cons, List.not_mem_nil, or_false, forall_eq_or_imp, forall_eq] at f
      obtain ⟨p0, p1⟩ := f
      first | (go_simp; done) | (go_simp; with_reducible rfl)
    refine wpAnyH_take (i := 1) (v := ?_) rfl (by kernel_rfl) (by kernel_rfl) (by kernel_rfl) (fun _ _ _ h => h) (Yields.yieldsIf (Or.inl ⟨by kernel_rfl, ?_⟩)) hS ?_
    rotate_left
    · first | (intro w; go_simp; done) | (intro w; go_simp; with_reducible rfl)
    refine wpAnyH_take (i := 2) (v := ?_) rfl (by kernel_rfl) (by kernel_rfl) (by kernel_rfl) (fun _ _ _ h => h) (Or.inl ⟨by kernel_rfl, fun W hW => ?_⟩) hS ?_
    rotate_left
    · obtain ⟨a0, a1, a2, a3, a4, a5⟩ := HO.out W hW.bel
      have f := hW.at0
      simp only [List.mem_cons, List.not_mem_nil, or_false, forall_eq_or_imp, forall_eq] at f
      obtain ⟨p0, p1⟩ := f
      first | (go_simp; done) | (go_simp; with_reducible rfl)
    refine wpAnyH_take (i := 3) (v := ?_) rfl (by kernel_rfl) (by kernel_rfl) (by kernel_rfl) (fun _ _ _ h => h) (Or.inl ⟨by kernel_rfl, fun W hW => ?_⟩) hS ?_
    rotate_left
    · obtain ⟨a0, a1, a2, a3, a4, a5⟩ := HO.out W hW.bel
      have f := hW.at0
      simp only [List.mem_cons, List.not_mem_nil, or_false, forall_eq_or_imp, forall_eq] at f
      obtain ⟨p0, p1⟩ := f
      first | (go_simp; done) | (go_simp; with_reducible rfl)
    refine wpAnyH_take (i := 4) (v := ?_) rfl (by kernel_rfl) (by kernel_rfl) (by kernel_rfl) (fun _ _ _ h => h) (Yields.yieldsIf (Or.inl ⟨by kernel_rfl, ?_⟩)) hS ?_
    rotate_left
    · first | (intro w; go_simp; done) | (intro w; go_simp; with_reducible rfl)
    refine wpAnyH_take (i := 5) (v := ?_) rfl (by kernel_rfl) (by kernel_rfl) (by kernel_rfl) (fun _ _ _ h => h) (Or.inl ⟨by kernel_rfl, fun W hW => ?_⟩) hS ?_
    rotate_left
    · obtain ⟨a0, a1, a2, a3, a4, a5⟩ := HO.out W hW.bel
      have f := hW.at0
      simp only [List.mem_cons, List.not_mem_nil, or_false, forall_eq_or_imp, forall_eq] at f
      obtain ⟨p0, p1⟩ := f
      first | (go_simp; done) | (go_simp; with_reducible rfl)
    refine wpAnyH_ready (rs := [6, 10, 11]) (by kernel_rfl) (by simp) ?_
    refine AllReadyH.cons rfl (fun K hK => ?_) (AllReadyH.cons rfl (fun K hK => ?_) (AllReadyH.cons rfl (fun K hK => ?_) AllReadyH.nil))
    · have hcall := CAL.out wd (E.tv ob Ab nb cb) HXd.out.bel (E.InP.up EY.out HXd.out.bel)
      unfold E.tv at hcall
      go_simp
      go_wp2_with fail
      refine hcall.mono ?_
      rintro e wdx ⟨v5, rfl, ht5, hbx⟩
      obtain ⟨A5, n5, c5, rfl⟩ := E.InP.form ht5
      simp only at ht5 ⊢
      obtain ⟨z5, hz5⟩ : ∃ z5, t5.N = z5 := ⟨_, rfl⟩
      rw [hz5] at ht5 ⊢
      clear hz5
      have HXdx := Lib.hid ((HXd.out.next hbx).e ht5)
      have szwdx : wd.heap.size ≤ wdx.heap.size := hbx.size
      clear hcall ht5 hbx HXd
      unfold E.tv cv
      refine hK.out _ _ (HXdx.out.sub0 (by simp) (by simp)) (fun hS => ?_)
      clear hK K
      refine wpAnyH_take (i := 7) (v := ?_) rfl (by kernel_rfl) (by kernel_rfl) (by kernel_rfl) (fun _ _ _ h => h) (Yields.yieldsIf (Or.inl ⟨by kernel_rfl, ?_⟩)) hS ?_
      rotate_left
      · first | (intro w; go_simp; done) | (intro w; go_simp; with_reducible rfl)
      refine wpAnyH_take (i := 8) (v := ?_) rfl (by kernel_rfl) (by kernel_rfl) (by kernel_rfl) (fun _ _ _ h => h) (Yields.yieldsIf (Or.inl ⟨by kernel_rfl, ?_⟩)) hS ?_
      rotate_left
      · first | (intro w; go_simp; done) | (intro w; go_simp; with_reducible rfl)
      refine wpAnyH_take (i := 9) (v := ?_) rfl (by kernel_rfl) (by kernel_rfl) (by kernel_rfl) (fun _ _ _ h => h) (Yields.yieldsIf (Or.inl ⟨by kernel_rfl, ?_⟩)) hS ?_
      rotate_left
      · first | (intro w; go_simp; done) | (intro w; go_simp; with_reducible rfl)
      refine wpAnyH_ready (rs := [10, 11]) (by kernel_rfl) (by simp) ?_
      refine AllReadyH.cons rfl (fun K hK => ?_) (AllReadyH.cons rfl (fun K hK => ?_) AllReadyH.nil)
      · go_simp
        go_wp2
        have HXdxx' := HXdx.out.two (.int .i64 0) (.slice none 0 0) 27
        have HXdxx := Lib.hid HXdxx'
        clear HXdxx' HXdx
        simp only [List.nil_append, List.cons_append] at HXdxx
        refine hK.out _ _ (HXdxx.out.sub0 (by simp) (by simp)) (fun hS => ?_)
        clear hK K
        have szwdxx : wdx.heap.size < (wdx.alloc (.cells #[.int .i64 0, .slice none 0 0] 27)).heap.size := by simp
        generalize wdx.alloc (.cells #[.int .i64 0, .slice none 0 0] 27) = wdxx at *
        refine wpAnyH_ready (rs := [11]) (by kernel_rfl) (by simp) ?_
        refine AllReadyH.cons rfl (fun K hK => ?_) AllReadyH.nil
        go_simp
        go_wp2
        have HXdxxx' := HXdxx.out.two (.int .i64 0) (.int .i64 0) 57
        have HXdxxx := Lib.hid HXdxxx'
        clear HXdxxx' HXdxx
        simp only [List.nil_append, List.cons_append] at HXdxxx
        refine hK.out _ _ (HXdxxx.out.sub0 (by simp) (by simp)) (fun hS => ?_)
        clear hK K
        have szwdxxx : wdxx.heap.size < (wdxx.alloc (.cells #[.int .i64 0, .int .i64 0] 57)).heap.size := by simp
        generalize wdxx.alloc (.cells #[.int .i64 0, .int .i64 0] 57) = wdxxx at *
        refine wpAnyH_ready (rs := [12]) (by kernel_rfl) (by simp) ?_
        refine AllReadyH.cons rfl (fun K hK => ?_) AllReadyH.nil
        obtain ⟨y0, y1, q0, q1, q2, q3⟩ := HXdxxx.out.facts2 (wdx.heap.size) (by simp)
        go_simp
        go_wp2
        have HXdxxxx := Lib.hid ((HXdxxx.out.sub (bs' := [(w.heap.size, 0, .int .i64 n), (w.heap.size, 1, .slice (some ⟨b, off, none⟩) 2 c), (wdxx.heap.size, 0, .int .i64 0), (wdxx.heap.size, 1, .int .i64 0)]) (rs' := [(w.heap.size, 2), (w.heap.size + 1, 2), (w.heap.size + 1 + 1, 2), (wdx.heap.size, 2), (wdxx.heap.size, 2)]) (is' := []) (es' := [(t5, E.tv z5 A5 n5 c5)]) (by simp) (by simp) (by simp) (by simp)).set2 (wdx.heap.size) (.int .i64 z5) (.slice A5 n5 c5) (by simp) (by simp only [List.mem_cons, List.not_mem_nil, or_false, forall_eq_or_imp, forall_eq]; omega) (by simp))
        clear q0 q1 q2 q3 HXdxxx
        refine hK.out _ _ (HXdxxxx.out.sub0 (by simp) (by simp)) (fun hS => ?_)
        clear hK K
        generalize (wdxxx.setCell ⟨wdx.heap.size, 0, none⟩ (.int .i64 z5)).setCell ⟨wdx.heap.size, 1, none⟩ (.slice A5 n5 c5) = wdxxxx at *
        refine wpAnyH_ready (rs := [13]) (by kernel_rfl) (by simp) ?_
        refine AllReadyH.cons rfl (fun K hK => ?_) AllReadyH.nil
        obtain ⟨y0, y1, q0, q1, q2, q3⟩ := HXdxxxx.out.facts2 (wdxx.heap.size) (by simp)
        go_simp
        go_wp2
        have HXdxxxxx := Lib.hid ((HXdxxxx.out.sub (bs' := [(w.heap.size, 0, .int .i64 n), (w.heap.size, 1, .slice (some ⟨b, off, none⟩) 2 c), (wdx.heap.size, 0, (.int .i64 z5)), (wdx.heap.size, 1, (.slice A5 n5 c5))]) (rs' := [(w.heap.size, 2), (w.heap.size + 1, 2), (w.heap.size + 1 + 1, 2), (wdx.heap.size, 2), (wdxx.heap.size, 2)]) (is' := []) (es' := [(t5, E.tv z5 A5 n5 c5)]) (by simp) (by simp) (by simp) (by simp)).set2 (wdxx.heap.size) (.int .i64 (k1 : Int)) (.int .i64 (k2 : Int)) (by simp) (by simp only [List.mem_cons, List.not_mem_nil, or_false, forall_eq_or_imp, forall_eq]; omega) (by simp))
        clear q0 q1 q2 q3 HXdxxxx
        refine hK.out _ _ (HXdxxxxx.out.sub0 (by simp) (by simp)) (fun hS => ?_)
        clear hK K
        generalize (wdxxxx.setCell ⟨wdxx.heap.size, 0, none⟩ (.int .i64 (k1 : Int))).setCell ⟨wdxx.heap.size, 1, none⟩ (.int .i64 (k2 : Int)) = wdxxxxx at *
        try go_simp
        refine wpAnyH_done (by kernel_rfl) ?_ _
        go_wp2_with fail
        go_meet
        exact ⟨wdx.heap.size, wdxx.heap.size, z5, A5, n5, c5, rfl, rfl, by omega, by omega, by omega, HXdxxxxx.out.sub (by simp) (by simp) (by simp) (by simp)⟩
      · go_simp
        go_wp2
        have HXdxx' := HXdx.out.two (.int .i64 0) (.int .i64 0) 57
        have HXdxx := Lib.hid HXdxx'
        clear HXdxx' HXdx
        simp only [List.nil_append, List.cons_append] at HXdxx
        refine hK.out _ _ (HXdxx.out.sub0 (by simp) (by simp)) (fun hS => ?_)
        clear hK K
        have szwdxx : wdx.heap.size < (wdx.alloc (.cells #[.int .i64 0, .int .i64 0] 57)).heap.size := by simp
        generalize wdx.alloc (.cells #[.int .i64 0, .int .i64 0] 57) = wdxx at *
        refine wpAnyH_ready (rs := [10]) (by kernel_rfl) (by simp) ?_
        refine AllReadyH.cons rfl (fun K hK => ?_) AllReadyH.nil
        go_simp
        go_wp2
        have HXdxxx' := HXdxx.out.two (.int .i64 0) (.slice none 0 0) 27
        have HXdxxx := Lib.hid HXdxxx'
        clear HXdxxx' HXdxx
        simp only [List.nil_append, List.cons_append] at HXdxxx
        refine hK.out _ _ (HXdxxx.out.sub0 (by simp) (by simp)) (fun hS => ?_)
        clear hK K
        have szwdxxx : wdxx.heap.size < (wdxx.alloc (.cells #[.int .i64 0, .slice none 0 0] 27)).heap.size := by simp
        generalize wdxx.alloc (.cells #[.int .i64 0, .slice none 0 0] 27) = wdxxx at *
        refine wpAnyH_ready (rs := [12]) (by kernel_rfl) (by simp) ?_
        refine AllReadyH.cons rfl (fun K hK => ?_) AllReadyH.nil
        obtain ⟨y0, y1, q0, q1, q2, q3⟩ := HXdxxx.out.facts2 (wdxx.heap.size) (by simp)
        go_simp
        go_wp2
        have HXdxxxx := Lib.hid ((HXdxxx.out.sub (bs' := [(w.heap.size, 0, .int .i64 n), (w.heap.size, 1, .slice (some ⟨b, off, none⟩) 2 c), (wdx.heap.size, 0, .int .i64 0), (wdx.heap.size, 1, .int .i64 0)]) (rs' := [(w.heap.size, 2), (w.heap.size + 1, 2), (w.heap.size + 1 + 1, 2), (wdx.heap.size, 2), (wdxx.heap.size, 2)]) (is' := []) (es' := [(t5, E.tv z5 A5 n5 c5)]) (by simp) (by simp) (by simp) (by simp)).set2 (wdxx.heap.size) (.int .i64 z5) (.slice A5 n5 c5) (by simp) (by simp only [List.mem_cons, List.not_mem_nil, or_false, forall_eq_or_imp, forall_eq]; omega) (by simp))
        clear q0 q1 q2 q3 HXdxxx
        refine hK.out _ _ (HXdxxxx.out.sub0 (by simp) (by simp)) (fun hS => ?_)
        clear hK K
        generalize (wdxxx.setCell ⟨wdxx.heap.size, 0, none⟩ (.int .i64 z5)).setCell ⟨wdxx.heap.size, 1, none⟩ (.slice A5 n5 c5) = wdxxxx at *
        refine wpAnyH_ready (rs := [13]) (by kernel_rfl) (by simp) ?_
        refine AllReadyH.cons rfl (fun K hK => ?_) AllReadyH.nil
        obtain ⟨y0, y1, q0, q1, q2, q3⟩ := HXdxxxx.out.facts2 (wdx.heap.size) (by simp)
        go_simp
        go_wp2
        have HXdxxxxx := Lib.hid ((HXdxxxx.out.sub (bs' := [(w.heap.size, 0, .int .i64 n), (w.heap.size, 1, .slice (some ⟨b, off, none⟩) 2 c), (wdxx.heap.size, 0, (.int .i64 z5)), (wdxx.heap.size, 1, (.slice A5 n5 c5))]) (rs' := [(w.heap.size, 2), (w.heap.size + 1, 2), (w.heap.size + 1 + 1, 2), (wdx.heap.size, 2), (wdxx.heap.size, 2)]) (is' := []) (es' := [(t5, E.tv z5 A5 n5 c5)]) (by simp) (by simp) (by simp) (by simp)).set2 (wdx.heap.size) (.int .i64 (k1 : Int)) (.int .i64 (k2 : Int)) (by simp) (by simp only [List.mem_cons, List.not_mem_nil, or_false, forall_eq_or_imp, forall_eq]; omega) (by simp))
        clear q0 q1 q2 q3 HXdxxxx
        refine hK.out _ _ (HXdxxxxx.out.sub0 (by simp) (by simp)) (fun hS => ?_)
        clear hK K
        generalize (wdxxxx.setCell ⟨wdx.heap.size, 0, none⟩ (.int .i64 (k1 : Int))).setCell ⟨wdx.heap.size, 1, none⟩ (.int .i64 (k2 : Int)) = wdxxxxx at *
        try go_simp
        refine wpAnyH_done (by kernel_rfl) ?_ _
        go_wp2_with fail
        go_meet
        exact ⟨wdxx.heap.size, wdx.heap.size, z5, A5, n5, c5, rfl, rfl, by omega, by omega, by omega, HXdxxxxx.out.sub (by simp) (by simp) (by simp) (by simp)⟩
    · go_simp
      go_wp2
      have HXdx' := HXd.out.two (.int .i64 0) (.slice none 0 0) 27
      have HXdx := Lib.hid HXdx'
      clear HXdx' HXd
      simp only [List.nil_append, List.cons_append] at HXdx
      refine hK.out _ _ (HXdx.out.sub0 (by simp) (by simp)) (fun hS => ?_)
      clear hK K
      have szwdx : wd.heap.size < (wd.alloc (.cells #[.int .i64 0, .slice none 0 0] 27)).heap.size := by simp
      generalize wd.alloc (.cells #[.int .i64 0, .slice none 0 0] 27) = wdx at *
      refine wpAnyH_ready (rs := [6, 11]) (by kernel_rfl) (by simp) ?_
      refine AllReadyH.cons rfl (fun K hK => ?_) (AllReadyH.cons rfl (fun K hK => ?_) AllReadyH.nil)
      · have hcall := CAL.out wdx (E.tv ob Ab nb cb) HXdx.out.bel (E.InP.up EY.out HXdx.out.bel)
        unfold E.tv at hcall
        go_simp
        go_wp2_with fail
        refine hcall.mono ?_
        rintro e wdxx ⟨v5, rfl, ht5, hbx⟩
        obtain ⟨A5, n5, c5, rfl⟩ := E.InP.form ht5
        simp only at ht5 ⊢
        obtain ⟨z5, hz5⟩ : ∃ z5, t5.N = z5 := ⟨_, rfl⟩
        rw [hz5] at ht5 ⊢
        clear hz5
        have HXdxx := Lib.hid ((HXdx.out.next hbx).e ht5)
        have szwdxx : wdx.heap.size ≤ wdxx.heap.size := hbx.size
        clear hcall ht5 hbx HXdx
        unfold E.tv cv
        refine hK.out _ _ (HXdxx.out.sub0 (by simp) (by simp)) (fun hS => ?_)
        clear hK K
        refine wpAnyH_take (i := 7) (v := ?_) rfl (by kernel_rfl) (by kernel_rfl) (by kernel_rfl) (fun _ _ _ h => h) (Yields.yieldsIf (Or.inl ⟨by kernel_rfl, ?_⟩)) hS ?_
        rotate_left
        · first | (intro w; go_simp; done) | (intro w; go_simp; with_reducible rfl)
        refine wpAnyH_take (i := 8) (v := ?_) rfl (by kernel_rfl) (by kernel_rfl) (by kernel_rfl) (fun _ _ _ h => h) (Yields.yieldsIf (Or.inl ⟨by kernel_rfl, ?_⟩)) hS ?_
        rotate_left
        · first | (intro w; go_simp; done) | (intro w; go_simp; with_reducible rfl)
        refine wpAnyH_take (i := 9) (v := ?_) rfl (by kernel_rfl) (by kernel_rfl) (by kernel_rfl) (fun _ _ _ h => h) (Yields.yieldsIf (Or.inl ⟨by kernel_rfl, ?_⟩)) hS ?_
        rotate_left
        · first | (intro w; go_simp; done) | (intro w; go_simp; with_reducible rfl)
        refine wpAnyH_ready (rs := [11]) (by kernel_rfl) (by simp) ?_
        refine AllReadyH.cons rfl (fun K hK => ?_) AllReadyH.nil
        go_simp
        go_wp2
        have HXdxxx' := HXdxx.out.two (.int .i64 0) (.int .i64 0) 57
        have HXdxxx := Lib.hid HXdxxx'
        clear HXdxxx' HXdxx
        simp only [List.nil_append, List.cons_append] at HXdxxx
        refine hK.out _ _ (HXdxxx.out.sub0 (by simp) (by simp)) (fun hS => ?_)
        clear hK K
        have szwdxxx : wdxx.heap.size < (wdxx.alloc (.cells #[.int .i64 0, .int .i64 0] 57)).heap.size := by simp
        generalize wdxx.alloc (.cells #[.int .i64 0, .int .i64 0] 57) = wdxxx at *
        refine wpAnyH_ready (rs := [12]) (by kernel_rfl) (by simp) ?_
        refine AllReadyH.cons rfl (fun K hK => ?_) AllReadyH.nil
        obtain ⟨y0, y1, q0, q1, q2, q3⟩ := HXdxxx.out.facts2 (wd.heap.size) (by simp)
        go_simp
        go_wp2
        have HXdxxxx := Lib.hid ((HXdxxx.out.sub (bs' := [(w.heap.size, 0, .int .i64 n), (w.heap.size, 1, .slice (some ⟨b, off, none⟩) 2 c), (wdxx.heap.size, 0, .int .i64 0), (wdxx.heap.size, 1, .int .i64 0)]) (rs' := [(w.heap.size, 2), (w.heap.size + 1, 2), (w.heap.size + 1 + 1, 2), (wd.heap.size, 2), (wdxx.heap.size, 2)]) (is' := []) (es' := [(t5, E.tv z5 A5 n5 c5)]) (by simp) (by simp) (by simp) (by simp)).set2 (wd.heap.size) (.int .i64 z5) (.slice A5 n5 c5) (by simp) (by simp only [List.mem_cons, List.not_mem_nil, or_false, forall_eq_or_imp, forall_eq]; omega) (by simp))
        clear q0 q1 q2 q3 HXdxxx
        refine hK.out _ _ (HXdxxxx.out.sub0 (by simp) (by simp)) (fun hS => ?_)
        clear hK K
        generalize (wdxxx.setCell ⟨wd.heap.size, 0, none⟩ (.int .i64 z5)).setCell ⟨wd.heap.size, 1, none⟩ (.slice A5 n5 c5) = wdxxxx at *
        refine wpAnyH_ready (rs := [13]) (by kernel_rfl) (by simp) ?_
        refine AllReadyH.cons rfl (fun K hK => ?_) AllReadyH.nil
        obtain ⟨y0, y1, q0, q1, q2, q3⟩ := HXdxxxx.out.facts2 (wdxx.heap.size) (by simp)
        go_simp
        go_wp2
        have HXdxxxxx := Lib.hid ((HXdxxxx.out.sub (bs' := [(w.heap.size, 0, .int .i64 n), (w.heap.size, 1, .slice (some ⟨b, off, none⟩) 2 c), (wd.heap.size, 0, (.int .i64 z5)), (wd.heap.size, 1, (.slice A5 n5 c5))]) (rs' := [(w.heap.size, 2), (w.heap.size + 1, 2), (w.heap.size + 1 + 1, 2), (wd.heap.size, 2), (wdxx.heap.size, 2)]) (is' := []) (es' := [(t5, E.tv z5 A5 n5 c5)]) (by simp) (by simp) (by simp) (by simp)).set2 (wdxx.heap.size) (.int .i64 (k1 : Int)) (.int .i64 (k2 : Int)) (by simp) (by simp only [List.mem_cons, List.not_mem_nil, or_false, forall_eq_or_imp, forall_eq]; omega) (by simp))
        clear q0 q1 q2 q3 HXdxxxx
        refine hK.out _ _ (HXdxxxxx.out.sub0 (by simp) (by simp)) (fun hS => ?_)
        clear hK K
        generalize (wdxxxx.setCell ⟨wdxx.heap.size, 0, none⟩ (.int .i64 (k1 : Int))).setCell ⟨wdxx.heap.size, 1, none⟩ (.int .i64 (k2 : Int)) = wdxxxxx at *
        try go_simp
        refine wpAnyH_done (by kernel_rfl) ?_ _
        go_wp2_with fail
        go_meet
        exact ⟨wd.heap.size, wdxx.heap.size, z5, A5, n5, c5, rfl, rfl, by omega, by omega, by omega, HXdxxxxx.out.sub (by simp) (by simp) (by simp) (by simp)⟩
      · go_simp
        go_wp2
        have HXdxx' := HXdx.out.two (.int .i64 0) (.int .i64 0) 57
        have HXdxx := Lib.hid HXdxx'
        clear HXdxx' HXdx
        simp only [List.nil_append, List.cons_append] at HXdxx
        refine hK.out _ _ (HXdxx.out.sub0 (by simp) (by simp)) (fun hS => ?_)
        clear hK K
        have szwdxx : wdx.heap.size < (wdx.alloc (.cells #[.int .i64 0, .int .i64 0] 57)).heap.size := by simp
        generalize wdx.alloc (.cells #[.int .i64 0, .int .i64 0] 57) = wdxx at *
        refine wpAnyH_ready (rs := [6]) (by kernel_rfl) (by simp) ?_
        refine AllReadyH.cons rfl (fun K hK => ?_) AllReadyH.nil
        have hcall := CAL.out wdxx (E.tv ob Ab nb cb) HXdxx.out.bel (E.InP.up EY.out HXdxx.out.bel)
        unfold E.tv at hcall
        go_simp
        go_wp2_with fail
        refine hcall.mono ?_
        rintro e wdxxx ⟨v5, rfl, ht5, hbx⟩
        obtain ⟨A5, n5, c5, rfl⟩ := E.InP.form ht5
        simp only at ht5 ⊢
        obtain ⟨z5, hz5⟩ : ∃ z5, t5.N = z5 := ⟨_, rfl⟩
        rw [hz5] at ht5 ⊢
        clear hz5
        have HXdxxx := Lib.hid ((HXdxx.out.next hbx).e ht5)
        have szwdxxx : wdxx.heap.size ≤ wdxxx.heap.size := hbx.size
        clear hcall ht5 hbx HXdxx
        unfold E.tv cv
        refine hK.out _ _ (HXdxxx.out.sub0 (by simp) (by simp)) (fun hS => ?_)
        clear hK K
        refine wpAnyH_take (i := 7) (v := ?_) rfl (by kernel_rfl) (by kernel_rfl) (by kernel_rfl) (fun _ _ _ h => h) (Yields.yieldsIf (Or.inl ⟨by kernel_rfl, ?_⟩)) hS ?_
        rotate_left
        · first | (intro w; go_simp; done) | (intro w; go_simp; with_reducible rfl)
        refine wpAnyH_take (i := 8) (v := ?_) rfl (by kernel_rfl) (by kernel_rfl) (by kernel_rfl) (fun _ _ _ h => h) (Yields.yieldsIf (Or.inl ⟨by kernel_rfl, ?_⟩)) hS ?_
        rotate_left
        · first | (intro w; go_simp; done) | (intro w; go_simp; with_reducible rfl)
        refine wpAnyH_take (i := 9) (v := ?_) rfl (by kernel_rfl) (by kernel_rfl) (by kernel_rfl) (fun _ _ _ h => h) (Yields.yieldsIf (Or.inl ⟨by kernel_rfl, ?_⟩)) hS ?_
        rotate_left
        · first | (intro w; go_simp; done) | (intro w; go_simp; with_reducible rfl)
        refine wpAnyH_ready (rs := [12]) (by kernel_rfl) (by simp) ?_
        refine AllReadyH.cons rfl (fun K hK => ?_) AllReadyH.nil
        obtain ⟨y0, y1, q0, q1, q2, q3⟩ := HXdxxx.out.facts2 (wd.heap.size) (by simp)
        go_simp
        go_wp2
        have HXdxxxx := Lib.hid ((HXdxxx.out.sub (bs' := [(w.heap.size, 0, .int .i64 n), (w.heap.size, 1, .slice (some ⟨b, off, none⟩) 2 c), (wdx.heap.size, 0, .int .i64 0), (wdx.heap.size, 1, .int .i64 0)]) (rs' := [(w.heap.size, 2), (w.heap.size + 1, 2), (w.heap.size + 1 + 1, 2), (wd.heap.size, 2), (wdx.heap.size, 2)]) (is' := []) (es' := [(t5, E.tv z5 A5 n5 c5)]) (by simp) (by simp) (by simp) (by simp)).set2 (wd.heap.size) (.int .i64 z5) (.slice A5 n5 c5) (by simp) (by simp only [List.mem_cons, List.not_mem_nil, or_false, forall_eq_or_imp, forall_eq]; omega) (by simp))
        clear q0 q1 q2 q3 HXdxxx
        refine hK.out _ _ (HXdxxxx.out.sub0 (by simp) (by simp)) (fun hS => ?_)
        clear hK K
        generalize (wdxxx.setCell ⟨wd.heap.size, 0, none⟩ (.int .i64 z5)).setCell ⟨wd.heap.size, 1, none⟩ (.slice A5 n5 c5) = wdxxxx at *
        refine wpAnyH_ready (rs := [13]) (by kernel_rfl) (by simp) ?_
        refine AllReadyH.cons rfl (fun K hK => ?_) AllReadyH.nil
        obtain ⟨y0, y1, q0, q1, q2, q3⟩ := HXdxxxx.out.facts2 (wdx.heap.size) (by simp)
        go_simp
        go_wp2
        have HXdxxxxx := Lib.hid ((HXdxxxx.out.sub (bs' := [(w.heap.size, 0, .int .i64 n), (w.heap.size, 1, .slice (some ⟨b, off, none⟩) 2 c), (wd.heap.size, 0, (.int .i64 z5)), (wd.heap.size, 1, (.slice A5 n5 c5))]) (rs' := [(w.heap.size, 2), (w.heap.size + 1, 2), (w.heap.size + 1 + 1, 2), (wd.heap.size, 2), (wdx.heap.size, 2)]) (is' := []) (es' := [(t5, E.tv z5 A5 n5 c5)]) (by simp) (by simp) (by simp) (by simp)).set2 (wdx.heap.size) (.int .i64 (k1 : Int)) (.int .i64 (k2 : Int)) (by simp) (by simp only [List.mem_cons, List.not_mem_nil, or_false, forall_eq_or_imp, forall_eq]; omega) (by simp))
        clear q0 q1 q2 q3 HXdxxxx
        refine hK.out _ _ (HXdxxxxx.out.sub0 (by simp) (by simp)) (fun hS => ?_)
        clear hK K
        generalize (wdxxxx.setCell ⟨wdx.heap.size, 0, none⟩ (.int .i64 (k1 : Int))).setCell ⟨wdx.heap.size, 1, none⟩ (.int .i64 (k2 : Int)) = wdxxxxx at *
        try go_simp
        refine wpAnyH_done (by kernel_rfl) ?_ _
        go_wp2_with fail
        go_meet
        exact ⟨wd.heap.size, wdx.heap.size, z5, A5, n5, c5, rfl, rfl, by omega, by omega, by omega, HXdxxxxx.out.sub (by simp) (by simp) (by simp) (by simp)⟩
    · go_simp
      go_wp2
      have HXdx' := HXd.out.two (.int .i64 0) (.int .i64 0) 57
      have HXdx := Lib.hid HXdx'
      clear HXdx' HXd
      simp only [List.nil_append, List.cons_append] at HXdx
      refine hK.out _ _ (HXdx.out.sub0 (by simp) (by simp)) (fun hS => ?_)
      clear hK K
      have szwdx : wd.heap.size < (wd.alloc (.cells #[.int .i64 0, .int .i64 0] 57)).heap.size := by simp
      generalize wd.alloc (.cells #[.int .i64 0, .int .i64 0] 57) = wdx at *
      refine wpAnyH_ready (rs := [6, 10]) (by kernel_rfl) (by simp) ?_
      refine AllReadyH.cons rfl (fun K hK => ?_) (AllReadyH.cons rfl (fun K hK => ?_) AllReadyH.nil)
      · have hcall := CAL.out wdx (E.tv ob Ab nb cb) HXdx.out.bel (E.InP.up EY.out HXdx.out.bel)
        unfold E.tv at hcall
        go_simp
        go_wp2_with fail
        refine hcall.mono ?_
        rintro e wdxx ⟨v5, rfl, ht5, hbx⟩
        obtain ⟨A5, n5, c5, rfl⟩ := E.InP.form ht5
        simp only at ht5 ⊢
        obtain ⟨z5, hz5⟩ : ∃ z5, t5.N = z5 := ⟨_, rfl⟩
        rw [hz5] at ht5 ⊢
        clear hz5
        have HXdxx := Lib.hid ((HXdx.out.next hbx).e ht5)
        have szwdxx : wdx.heap.size ≤ wdxx.heap.size := hbx.size
        clear hcall ht5 hbx HXdx
        unfold E.tv cv
        refine hK.out _ _ (HXdxx.out.sub0 (by simp) (by simp)) (fun hS => ?_)
        clear hK K
        refine wpAnyH_take (i := 7) (v := ?_) rfl (by kernel_rfl) (by kernel_rfl) (by kernel_rfl) (fun _ _ _ h => h) (Yields.yieldsIf (Or.inl ⟨by kernel_rfl, ?_⟩)) hS ?_
        rotate_left
        · first | (intro w; go_simp; done) | (intro w; go_simp; with_reducible rfl)
        refine wpAnyH_take (i := 8) (v := ?_) rfl (by kernel_rfl) (by kernel_rfl) (by kernel_rfl) (fun _ _ _ h => h) (Yields.yieldsIf (Or.inl ⟨by kernel_rfl, ?_⟩)) hS ?_
        rotate_left
        · first | (intro w; go_simp; done) | (intro w; go_simp; with_reducible rfl)
        refine wpAnyH_take (i := 9) (v := ?_) rfl (by kernel_rfl) (by kernel_rfl) (by kernel_rfl) (fun _ _ _ h => h) (Yields.yieldsIf (Or.inl ⟨by kernel_rfl, ?_⟩)) hS ?_
        rotate_left
        · first | (intro w; go_simp; done) | (intro w; go_simp; with_reducible rfl)
        refine wpAnyH_ready (rs := [10]) (by kernel_rfl) (by simp) ?_
        refine AllReadyH.cons rfl (fun K hK => ?_) AllReadyH.nil
        go_simp
        go_wp2
        have HXdxxx' := HXdxx.out.two (.int .i64 0) (.slice none 0 0) 27
        have HXdxxx := Lib.hid HXdxxx'
        clear HXdxxx' HXdxx
        simp only [List.nil_append, List.cons_append] at HXdxxx
        refine hK.out _ _ (HXdxxx.out.sub0 (by simp) (by simp)) (fun hS => ?_)
        clear hK K
        have szwdxxx : wdxx.heap.size < (wdxx.alloc (.cells #[.int .i64 0, .slice none 0 0] 27)).heap.size := by simp
        generalize wdxx.alloc (.cells #[.int .i64 0, .slice none 0 0] 27) = wdxxx at *
        refine wpAnyH_ready (rs := [12]) (by kernel_rfl) (by simp) ?_
        refine AllReadyH.cons rfl (fun K hK => ?_) AllReadyH.nil
        obtain ⟨y0, y1, q0, q1, q2, q3⟩ := HXdxxx.out.facts2 (wdxx.heap.size) (by simp)
        go_simp
        go_wp2
        have HXdxxxx := Lib.hid ((HXdxxx.out.sub (bs' := [(w.heap.size, 0, .int .i64 n), (w.heap.size, 1, .slice (some ⟨b, off, none⟩) 2 c), (wd.heap.size, 0, .int .i64 0), (wd.heap.size, 1, .int .i64 0)]) (rs' := [(w.heap.size, 2), (w.heap.size + 1, 2), (w.heap.size + 1 + 1, 2), (wd.heap.size, 2), (wdxx.heap.size, 2)]) (is' := []) (es' := [(t5, E.tv z5 A5 n5 c5)]) (by simp) (by simp) (by simp) (by simp)).set2 (wdxx.heap.size) (.int .i64 z5) (.slice A5 n5 c5) (by simp) (by simp only [List.mem_cons, List.not_mem_nil, or_false, forall_eq_or_imp, forall_eq]; omega) (by simp))
        clear q0 q1 q2 q3 HXdxxx
        refine hK.out _ _ (HXdxxxx.out.sub0 (by simp) (by simp)) (fun hS => ?_)
        clear hK K
        generalize (wdxxx.setCell ⟨wdxx.heap.size, 0, none⟩ (.int .i64 z5)).setCell ⟨wdxx.heap.size, 1, none⟩ (.slice A5 n5 c5) = wdxxxx at *
        refine wpAnyH_ready (rs := [13]) (by kernel_rfl) (by simp) ?_
        refine AllReadyH.cons rfl (fun K hK => ?_) AllReadyH.nil
        obtain ⟨y0, y1, q0, q1, q2, q3⟩ := HXdxxxx.out.facts2 (wd.heap.size) (by simp)
        go_simp
        go_wp2
        have HXdxxxxx := Lib.hid ((HXdxxxx.out.sub (bs' := [(w.heap.size, 0, .int .i64 n), (w.heap.size, 1, .slice (some ⟨b, off, none⟩) 2 c), (wdxx.heap.size, 0, (.int .i64 z5)), (wdxx.heap.size, 1, (.slice A5 n5 c5))]) (rs' := [(w.heap.size, 2), (w.heap.size + 1, 2), (w.heap.size + 1 + 1, 2), (wd.heap.size, 2), (wdxx.heap.size, 2)]) (is' := []) (es' := [(t5, E.tv z5 A5 n5 c5)]) (by simp) (by simp) (by simp) (by simp)).set2 (wd.heap.size) (.int .i64 (k1 : Int)) (.int .i64 (k2 : Int)) (by simp) (by simp only [List.mem_cons, List.not_mem_nil, or_false, forall_eq_or_imp, forall_eq]; omega) (by simp))
        clear q0 q1 q2 q3 HXdxxxx
        refine hK.out _ _ (HXdxxxxx.out.sub0 (by simp) (by simp)) (fun hS => ?_)
        clear hK K
        generalize (wdxxxx.setCell ⟨wd.heap.size, 0, none⟩ (.int .i64 (k1 : Int))).setCell ⟨wd.heap.size, 1, none⟩ (.int .i64 (k2 : Int)) = wdxxxxx at *
        try go_simp
        refine wpAnyH_done (by kernel_rfl) ?_ _
        go_wp2_with fail
        go_meet
        exact ⟨wdxx.heap.size, wd.heap.size, z5, A5, n5, c5, rfl, rfl, by omega, by omega, by omega, HXdxxxxx.out.sub (by simp) (by simp) (by simp) (by simp)⟩
      · go_simp
        go_wp2
        have HXdxx' := HXdx.out.two (.int .i64 0) (.slice none 0 0) 27
        have HXdxx := Lib.hid HXdxx'
        clear HXdxx' HXdx
        simp only [List.nil_append, List.cons_append] at HXdxx
        refine hK.out _ _ (HXdxx.out.sub0 (by simp) (by simp)) (fun hS => ?_)
        clear hK K
        have szwdxx : wdx.heap.size < (wdx.alloc (.cells #[.int .i64 0, .slice none 0 0] 27)).heap.size := by simp
        generalize wdx.alloc (.cells #[.int .i64 0, .slice none 0 0] 27) = wdxx at *
        refine wpAnyH_ready (rs := [6]) (by kernel_rfl) (by simp) ?_
        refine AllReadyH.cons rfl (fun K hK => ?_) AllReadyH.nil
        have hcall := CAL.out wdxx (E.tv ob Ab nb cb) HXdxx.out.bel (E.InP.up EY.out HXdxx.out.bel)
        unfold E.tv at hcall
        go_simp
        go_wp2_with fail
        refine hcall.mono ?_
        rintro e wdxxx ⟨v5, rfl, ht5, hbx⟩
        obtain ⟨A5, n5, c5, rfl⟩ := E.InP.form ht5
        simp only at ht5 ⊢
        obtain ⟨z5, hz5⟩ : ∃ z5, t5.N = z5 := ⟨_, rfl⟩
        rw [hz5] at ht5 ⊢
        clear hz5
        have HXdxxx := Lib.hid ((HXdxx.out.next hbx).e ht5)
        have szwdxxx : wdxx.heap.size ≤ wdxxx.heap.size := hbx.size
        clear hcall ht5 hbx HXdxx
        unfold E.tv cv
        refine hK.out _ _ (HXdxxx.out.sub0 (by simp) (by simp)) (fun hS => ?_)
        clear hK K
        refine wpAnyH_take (i := 7) (v := ?_) rfl (by kernel_rfl) (by kernel_rfl) (by kernel_rfl) (fun _ _ _ h => h) (Yields.yieldsIf (Or.inl ⟨by kernel_rfl, ?_⟩)) hS ?_
        rotate_left
        · first | (intro w; go_simp; done) | (intro w; go_simp; with_reducible rfl)
        refine wpAnyH_take (i := 8) (v := ?_) rfl (by kernel_rfl) (by kernel_rfl) (by kernel_rfl) (fun _ _ _ h => h) (Yields.yieldsIf (Or.inl ⟨by kernel_rfl, ?_⟩)) hS ?_
        rotate_left
        · first | (intro w; go_simp; done) | (intro w; go_simp; with_reducible rfl)
        refine wpAnyH_take (i := 9) (v := ?_) rfl (by kernel_rfl) (by kernel_rfl) (by kernel_rfl) (fun _ _ _ h => h) (Yields.yieldsIf (Or.inl ⟨by kernel_rfl, ?_⟩)) hS ?_
        rotate_left
        · first | (intro w; go_simp; done) | (intro w; go_simp; with_reducible rfl)
        refine wpAnyH_ready (rs := [12]) (by kernel_rfl) (by simp) ?_
        refine AllReadyH.cons rfl (fun K hK => ?_) AllReadyH.nil
        obtain ⟨y0, y1, q0, q1, q2, q3⟩ := HXdxxx.out.facts2 (wdx.heap.size) (by simp)
        go_simp
        go_wp2
        have HXdxxxx := Lib.hid ((HXdxxx.out.sub (bs' := [(w.heap.size, 0, .int .i64 n), (w.heap.size, 1, .slice (some ⟨b, off, none⟩) 2 c), (wd.heap.size, 0, .int .i64 0), (wd.heap.size, 1, .int .i64 0)]) (rs' := [(w.heap.size, 2), (w.heap.size + 1, 2), (w.heap.size + 1 + 1, 2), (wd.heap.size, 2), (wdx.heap.size, 2)]) (is' := []) (es' := [(t5, E.tv z5 A5 n5 c5)]) (by simp) (by simp) (by simp) (by simp)).set2 (wdx.heap.size) (.int .i64 z5) (.slice A5 n5 c5) (by simp) (by simp only [List.mem_cons, List.not_mem_nil, or_false, forall_eq_or_imp, forall_eq]; omega) (by simp))
        clear q0 q1 q2 q3 HXdxxx
        refine hK.out _ _ (HXdxxxx.out.sub0 (by simp) (by simp)) (fun hS => ?_)
        clear hK K
        generalize (wdxxx.setCell ⟨wdx.heap.size, 0, none⟩ (.int .i64 z5)).setCell ⟨wdx.heap.size, 1, none⟩ (.slice A5 n5 c5) = wdxxxx at *
        refine wpAnyH_ready (rs := [13]) (by kernel_rfl) (by simp) ?_
        refine AllReadyH.cons rfl (fun K hK => ?_) AllReadyH.nil
        obtain ⟨y0, y1, q0, q1, q2, q3⟩ := HXdxxxx.out.facts2 (wd.heap.size) (by simp)
        go_simp
        go_wp2
        have HXdxxxxx := Lib.hid ((HXdxxxx.out.sub (bs' := [(w.heap.size, 0, .int .i64 n), (w.heap.size, 1, .slice (some ⟨b, off, none⟩) 2 c), (wdx.heap.size, 0, (.int .i64 z5)), (wdx.heap.size, 1, (.slice A5 n5 c5))]) (rs' := [(w.heap.size, 2), (w.heap.size + 1, 2), (w.heap.size + 1 + 1, 2), (wd.heap.size, 2), (wdx.heap.size, 2)]) (is' := []) (es' := [(t5, E.tv z5 A5 n5 c5)]) (by simp) (by simp) (by simp) (by simp)).set2 (wd.heap.size) (.int .i64 (k1 : Int)) (.int .i64 (k2 : Int)) (by simp) (by simp only [List.mem_cons, List.not_mem_nil, or_false, forall_eq_or_imp, forall_eq]; omega) (by simp))
        clear q0 q1 q2 q3 HXdxxxx
        refine hK.out _ _ (HXdxxxxx.out.sub0 (by simp) (by simp)) (fun hS => ?_)
        clear hK K
        generalize (wdxxxx.setCell ⟨wd.heap.size, 0, none⟩ (.int .i64 (k1 : Int))).setCell ⟨wd.heap.size, 1, none⟩ (.int .i64 (k2 : Int)) = wdxxxxx at *
        try go_simp
        refine wpAnyH_done (by kernel_rfl) ?_ _
        go_wp2_with fail
        go_meet
        exact ⟨wdx.heap.size, wd.heap.size, z5, A5, n5, c5, rfl, rfl, by omega, by omega, by omega, HXdxxxxx.out.sub (by simp) (by simp) (by simp) (by simp)⟩
  case rest =>
  obtain ⟨g6, g7, z5, A5, n5, c5, rfl, rfl, n6, n7, n67, hX⟩ := hcut
  have l6 : g6 < wc.heap.size := (hX.box (g6, 2) (by simp)).1.lt
  have l7 : g7 < wc.heap.size := (hX.box (g7, 2) (by simp)).1.lt
  have HX1 := Lib.hid hX
  clear hX HX0
  go_upto_region 2 with fail
  go_cut [8] (fun s8 wx => ∃ g8 g9 : Nat, s8 = .pointer (some ⟨g8, 0, none⟩) ∧ wc.heap.size ≤ g8 ∧ wc.heap.size ≤ g9 ∧ g8 ≠ g9 ∧ SX w [(w.heap.size, 0, .int .i64 n), (w.heap.size, 1, .slice (some ⟨b, off, none⟩) 2 c), (g6, 0, .int .i64 z5), (g6, 1, .slice A5 n5 c5), (g7, 0, .int .i64 (k1 : Int)), (g7, 1, .int .i64 (k2 : Int)), (g8, 0, .int .i64 n), (g8, 1, .slice (some ⟨g9, 0, none⟩) 2 2)] [(w.heap.size, 2), (w.heap.size + 1, 2), (w.heap.size + 1 + 1, 2), (g6, 2), (g7, 2), (g8, 2)] [] [] wx ∧ Ext g9 #[.int .i64 oa, .slice Aa na ca, .int .i64 ob, .slice Ab nb cb] t5 (E.tv z5 A5 n5 c5) x (E.tv oa Aa na ca) wx)
  case first =>
    refine wp_region_held_drew (S := fun W => SX w [(w.heap.size, 0, .int .i64 n), (w.heap.size, 1, .slice (some ⟨b, off, none⟩) 2 c)] [(w.heap.size, 2), (w.heap.size + 1, 2), (w.heap.size + 1 + 1, 2)] [] [] W) (by kernel_rfl) ((HX1.out.drew).sub0 (by simp) (by simp)) (fun hS => ?_)
    have HXd := Lib.hid (HX1.out.drew)
    have sd : wc.heap.size ≤ wc.drew.heap.size := by simp
    clear HX1
    generalize wc.drew = wd at *
    refine wpAnyH_take (i := 0) (v := ?_) rfl (by kernel_rfl) (by kernel_rfl) (by kernel_rfl) (fun _ _ _ h => h) (Yields.yieldsIf (Or.inl ⟨by kernel_rfl, ?_⟩)) hS ?_
    rotate_left
    · first | (intro w; go_simp; done) | (intro w; go_simp; with_reducible rfl)
    refine wpAnyH_take (i := 1) (v := ?_) rfl (by kernel_rfl) (by kernel_rfl) (by kernel_rfl) (fun _ _ _ h => h) (Or.inl ⟨by kernel_rfl, fun W hW => ?_⟩) hS ?_
    rotate_left
    · obtain ⟨a0, a1, a2, a3, a4, a5⟩ := HO.out W hW.bel
      have f := hW.at0
      simp only [List.mem_cons, List.not_mem_nil, or_false, forall_eq_or_imp, forall_eq] at f
      obtain ⟨p0, p1⟩ := f
      first | (go_simp; done) | (go_simp; with_reducible rfl)
    refine wpAnyH_take (i := 2) (v := ?_) rfl (by kernel_rfl) (by kernel_rfl) (by kernel_rfl) (fun _ _ _ h => h) (Yields.yieldsIf (Or.inl ⟨by kernel_rfl, ?_⟩)) hS ?_
    rotate_left
    · first | (intro w; go_simp; done) | (intro w; go_simp; with_reducible rfl)
    refine wpAnyH_take (i := 3) (v := ?_) rfl (by kernel_rfl) (by kernel_rfl) (by kernel_rfl) (fun _ _ _ h => h) (Or.inl ⟨by kernel_rfl, fun W hW => ?_⟩) hS ?_
    rotate_left
    · obtain ⟨a0, a1, a2, a3, a4, a5⟩ := HO.out W hW.bel
      have f := hW.at0
      simp only [List.mem_cons, List.not_mem_nil, or_false, forall_eq_or_imp, forall_eq] at f
      obtain ⟨p0, p1⟩ := f
      first | (go_simp; done) | (go_simp; with_reducible rfl)
    refine wpAnyH_take (i := 4) (v := ?_) rfl (by kernel_rfl) (by kernel_rfl) (by kernel_rfl) (fun _ _ _ h => h) (Yields.yieldsIf (Or.inl ⟨by kernel_rfl, ?_⟩)) hS ?_
    rotate_left
    · first | (intro w; go_simp; done) | (intro w; go_simp; with_reducible rfl)
    refine wpAnyH_take (i := 5) (v := ?_) rfl (by kernel_rfl) (by kernel_rfl) (by kernel_rfl) (fun _ _ _ h => h) (Or.inl ⟨by kernel_rfl, fun W hW => ?_⟩) hS ?_
    rotate_left
    · obtain ⟨a0, a1, a2, a3, a4, a5⟩ := HO.out W hW.bel
      have f := hW.at0
      simp only [List.mem_cons, List.not_mem_nil, or_false, forall_eq_or_imp, forall_eq] at f
      obtain ⟨p0, p1⟩ := f
      first | (go_simp; done) | (go_simp; with_reducible rfl)
    refine wpAnyH_take (i := 6) (v := ?_) rfl (by kernel_rfl) (by kernel_rfl) (by kernel_rfl) (fun _ _ _ h => h) (Yields.yieldsIf (Or.inl ⟨by kernel_rfl, ?_⟩)) hS ?_
    rotate_left
    · first | (intro w; go_simp; done) | (intro w; go_simp; with_reducible rfl)
    refine wpAnyH_take (i := 7) (v := ?_) rfl (by kernel_rfl) (by kernel_rfl) (by kernel_rfl) (fun _ _ _ h => h) (Or.inl ⟨by kernel_rfl, fun W hW => ?_⟩) hS ?_
    rotate_left
    · obtain ⟨a0, a1, a2, a3, a4, a5⟩ := HO.out W hW.bel
      have f := hW.at0
      simp only [List.mem_cons, List.not_mem_nil, or_false, forall_eq_or_imp, forall_eq] at f
      obtain ⟨p0, p1⟩ := f
      first | (go_simp; done) | (go_simp; with_reducible rfl)
    refine wpAnyH_take (i := 8) (v := ?_) rfl (by kernel_rfl) (by kernel_rfl) (by kernel_rfl) (fun _ _ _ h => h) (Yields.yieldsIf (Or.inl ⟨by kernel_rfl, ?_⟩)) hS ?_
    rotate_left
    · first | (intro w; go_simp; done) | (intro w; go_simp; with_reducible rfl)
    refine wpAnyH_take (i := 9) (v := ?_) rfl (by kernel_rfl) (by kernel_rfl) (by kernel_rfl) (fun _ _ _ h => h) (Or.inl ⟨by kernel_rfl, fun W hW => ?_⟩) hS ?_
    rotate_left
    · obtain ⟨a0, a1, a2, a3, a4, a5⟩ := HO.out W hW.bel
      have f := hW.at0
      simp only [List.mem_cons, List.not_mem_nil, or_false, forall_eq_or_imp, forall_eq] at f
      obtain ⟨p0, p1⟩ := f
      first | (go_simp; done) | (go_simp; with_reducible rfl)
    refine wpAnyH_ready (rs := [10, 11]) (by kernel_rfl) (by simp) ?_
    refine AllReadyH.cons rfl (fun K hK => ?_) (AllReadyH.cons rfl (fun K hK => ?_) AllReadyH.nil)
    · have hcall := snode_new n oa Aa na ca ob Ab nb cb wd
      unfold E.tv at hcall
      go_simp
      go_wp2_with fail
      refine hcall.mono ?_
      rintro e wdx ⟨g9, rfl, hblk, hg9, hbx⟩
      have hext : Ext g9 #[.int .i64 oa, .slice Aa na ca, .int .i64 ob, .slice Ab nb cb] t5 (E.tv z5 A5 n5 c5) x (E.tv oa Aa na ca) wdx := ⟨hblk, (E.InP.below (HXd.out.eget (by simp)) hbx).more fun b hb => Nat.lt_of_lt_of_le hb hg9, (E.InP.below (E.InP.up EX.out HXd.out.bel) hbx).more fun b hb => Nat.lt_of_lt_of_le hb hg9⟩
      have HE := Lib.hid hext
      have l9 : g9 < wdx.heap.size := hext.lt
      have HXdx := Lib.hid (HXd.out.next hbx)
      have szwdx : wd.heap.size ≤ wdx.heap.size := hbx.size
      clear hcall hbx HXd hblk hext
      unfold E.tv
      refine hK.out _ _ (HXdx.out.sub0 (by simp) (by simp)) (fun hS => ?_)
      clear hK K
      refine wpAnyH_ready (rs := [11]) (by kernel_rfl) (by simp) ?_
      refine AllReadyH.cons rfl (fun K hK => ?_) AllReadyH.nil
      go_simp
      go_wp2
      have HXdxx' := HXdx.out.two (.int .i64 0) (.slice none 0 0) 27
      have HXdxx := Lib.hid HXdxx'
      clear HXdxx' HXdx
      simp only [List.nil_append, List.cons_append] at HXdxx
      have HEx := Lib.hid (HE.out.next ((Below.refl wdx.heap.size wdx).alloc (Nat.le_refl _) (.cells #[.int .i64 0, .slice none 0 0] 27)))
      clear HE
      refine hK.out _ _ (HXdxx.out.sub0 (by simp) (by simp)) (fun hS => ?_)
      clear hK K
      have szwdxx : wdx.heap.size < (wdx.alloc (.cells #[.int .i64 0, .slice none 0 0] 27)).heap.size := by simp
      generalize wdx.alloc (.cells #[.int .i64 0, .slice none 0 0] 27) = wdxx at *
      refine wpAnyH_ready (rs := [12]) (by kernel_rfl) (by simp) ?_
      refine AllReadyH.cons rfl (fun K hK => ?_) AllReadyH.nil
      obtain ⟨y0, y1, q0, q1, q2, q3⟩ := HXdxx.out.facts2 (wdx.heap.size) (by simp)
      go_simp
      go_wp2
      have HXdxxx := Lib.hid ((HXdxx.out.sub0 (bs' := [(w.heap.size, 0, .int .i64 n), (w.heap.size, 1, .slice (some ⟨b, off, none⟩) 2 c), (g6, 0, .int .i64 z5), (g6, 1, .slice A5 n5 c5), (g7, 0, .int .i64 (k1 : Int)), (g7, 1, .int .i64 (k2 : Int))]) (rs' := [(w.heap.size, 2), (w.heap.size + 1, 2), (w.heap.size + 1 + 1, 2), (g6, 2), (g7, 2), (wdx.heap.size, 2)]) (by simp) (by simp)).set2 (wdx.heap.size) (.int .i64 n) (.slice (some ⟨g9, 0, none⟩) 2 2) (by simp) (by simp only [List.mem_cons, List.not_mem_nil, or_false, forall_eq_or_imp, forall_eq]; omega) (by simp))
      have HE9 := Lib.hid (HEx.out.store2 (u := .int .i64 n) (v := .slice (some ⟨g9, 0, none⟩) 2 2) (HXdxx.out.box (wdx.heap.size, 2) (by simp)).1 (by omega))
      clear q0 q1 q2 q3 HXdxx HEx
      refine hK.out _ _ (HXdxxx.out.sub0 (by simp) (by simp)) (fun hS => ?_)
      clear hK K
      generalize (wdxx.setCell ⟨wdx.heap.size, 0, none⟩ (.int .i64 n)).setCell ⟨wdx.heap.size, 1, none⟩ (.slice (some ⟨g9, 0, none⟩) 2 2) = wdxxx at *
      try go_simp
      refine wpAnyH_done (by kernel_rfl) ?_ _
      go_wp2_with fail
      go_meet
      exact ⟨wdx.heap.size, g9, rfl, by omega, by omega, by omega, HXdxxx.out.sub0 (by simp) (by simp), HE9.out⟩
    · go_simp
      go_wp2
      have HXdx' := HXd.out.two (.int .i64 0) (.slice none 0 0) 27
      have HXdx := Lib.hid HXdx'
      clear HXdx' HXd
      simp only [List.nil_append, List.cons_append] at HXdx
      refine hK.out _ _ (HXdx.out.sub0 (by simp) (by simp)) (fun hS => ?_)
      clear hK K
      have szwdx : wd.heap.size < (wd.alloc (.cells #[.int .i64 0, .slice none 0 0] 27)).heap.size := by simp
      generalize wd.alloc (.cells #[.int .i64 0, .slice none 0 0] 27) = wdx at *
      refine wpAnyH_ready (rs := [10]) (by kernel_rfl) (by simp) ?_
      refine AllReadyH.cons rfl (fun K hK => ?_) AllReadyH.nil
      have hcall := snode_new n oa Aa na ca ob Ab nb cb wdx
      unfold E.tv at hcall
      go_simp
      go_wp2_with fail
      refine hcall.mono ?_
      rintro e wdxx ⟨g9, rfl, hblk, hg9, hbx⟩
      have hext : Ext g9 #[.int .i64 oa, .slice Aa na ca, .int .i64 ob, .slice Ab nb cb] t5 (E.tv z5 A5 n5 c5) x (E.tv oa Aa na ca) wdxx := ⟨hblk, (E.InP.below (HXdx.out.eget (by simp)) hbx).more fun b hb => Nat.lt_of_lt_of_le hb hg9, (E.InP.below (E.InP.up EX.out HXdx.out.bel) hbx).more fun b hb => Nat.lt_of_lt_of_le hb hg9⟩
      have HE := Lib.hid hext
      have l9 : g9 < wdxx.heap.size := hext.lt
      have HXdxx := Lib.hid (HXdx.out.next hbx)
      have szwdxx : wdx.heap.size ≤ wdxx.heap.size := hbx.size
      clear hcall hbx HXdx hblk hext
      unfold E.tv
      refine hK.out _ _ (HXdxx.out.sub0 (by simp) (by simp)) (fun hS => ?_)
      clear hK K
      refine wpAnyH_ready (rs := [12]) (by kernel_rfl) (by simp) ?_
      refine AllReadyH.cons rfl (fun K hK => ?_) AllReadyH.nil
      obtain ⟨y0, y1, q0, q1, q2, q3⟩ := HXdxx.out.facts2 (wd.heap.size) (by simp)
      go_simp
      go_wp2
      have HXdxxx := Lib.hid ((HXdxx.out.sub0 (bs' := [(w.heap.size, 0, .int .i64 n), (w.heap.size, 1, .slice (some ⟨b, off, none⟩) 2 c), (g6, 0, .int .i64 z5), (g6, 1, .slice A5 n5 c5), (g7, 0, .int .i64 (k1 : Int)), (g7, 1, .int .i64 (k2 : Int))]) (rs' := [(w.heap.size, 2), (w.heap.size + 1, 2), (w.heap.size + 1 + 1, 2), (g6, 2), (g7, 2), (wd.heap.size, 2)]) (by simp) (by simp)).set2 (wd.heap.size) (.int .i64 n) (.slice (some ⟨g9, 0, none⟩) 2 2) (by simp) (by simp only [List.mem_cons, List.not_mem_nil, or_false, forall_eq_or_imp, forall_eq]; omega) (by simp))
      have HE9 := Lib.hid (HE.out.store2 (u := .int .i64 n) (v := .slice (some ⟨g9, 0, none⟩) 2 2) (HXdxx.out.box (wd.heap.size, 2) (by simp)).1 (by omega))
      clear q0 q1 q2 q3 HXdxx HE
      refine hK.out _ _ (HXdxxx.out.sub0 (by simp) (by simp)) (fun hS => ?_)
      clear hK K
      generalize (wdxx.setCell ⟨wd.heap.size, 0, none⟩ (.int .i64 n)).setCell ⟨wd.heap.size, 1, none⟩ (.slice (some ⟨g9, 0, none⟩) 2 2) = wdxxx at *
      try go_simp
      refine wpAnyH_done (by kernel_rfl) ?_ _
      go_wp2_with fail
      go_meet
      exact ⟨wd.heap.size, g9, rfl, by omega, by omega, by omega, HXdxxx.out.sub0 (by simp) (by simp), HE9.out⟩
  case rest =>
  obtain ⟨g8, g9, rfl, n8, n9, n89, hX, hE⟩ := hcut
  have HX2 := Lib.hid hX
  have n9' : w.heap.size + 3 ≤ g9 := by omega
  have n8' : w.heap.size + 3 ≤ g8 := by omega
  have n69 : g6 ≠ g9 := by omega
  have n79 : g7 ≠ g9 := by omega
  have n68 : g6 ≠ g8 := by omega
  have n78 : g7 ≠ g8 := by omega
  have hput := hE.put2 (n := n)
  have HX3 := Lib.hid (((HX2.out.far g9 2 (.int .i64 z5) (by omega) (by simp only [List.mem_cons, List.not_mem_nil, or_false, forall_eq_or_imp, forall_eq]; omega) (by simp only [List.mem_cons, List.not_mem_nil, or_false, forall_eq_or_imp, forall_eq]; omega)).far g9 3 (.slice A5 n5 c5) (by omega) (by simp only [List.mem_cons, List.not_mem_nil, or_false, forall_eq_or_imp, forall_eq]; omega) (by simp only [List.mem_cons, List.not_mem_nil, or_false, forall_eq_or_imp, forall_eq]; omega)).e hput)
  have q0 := hE.cell 2
  have q1 := hE.cell 3
  have q2 := hE.thaw 2
  have q3 := hE.thaw 3
  simp at q0 q1
  clear hput hE HX1 l6 l7 n8 n9
  obtain ⟨a0, a1, a2, a3, a4, a5⟩ := HO.out wc HX2.out.bel
  have f := HX2.out.at0
  simp only [List.mem_cons, List.not_mem_nil, or_false, forall_eq_or_imp, forall_eq] at f
  obtain ⟨p0, p1, p2, p3, p4, p5, p6, p7⟩ := f
  clear HX2 hX
  go_upto_region 4 with fail
  generalize (wc.setCell ⟨g9, 2, none⟩ (.int .i64 z5)).setCell ⟨g9, 3, none⟩ (.slice A5 n5 c5) = w3 at *
  clear a0 a1 a2 a3 a4 a5 p0 p1 p2 p3 p4 p5 p6 p7 q0 q1 q2 q3
  obtain ⟨y0, y1, q0, q1, q2, q3⟩ := HX3.out.facts2 g7 (by simp)
  have f := HX3.out.at0
  simp only [List.mem_cons, List.not_mem_nil, or_false, forall_eq_or_imp, forall_eq] at f
  obtain ⟨p0, p1, p2, p3, p4, p5, p6, p7⟩ := f
  have HX4 := Lib.hid ((HX3.out.sub (bs' := [(g8, 0, .int .i64 n), (g8, 1, .slice (some ⟨g9, 0, none⟩) 2 2), (g7, 0, .int .i64 (k1 : Int))]) (rs' := [(w.heap.size, 2), (w.heap.size + 1, 2), (w.heap.size + 1 + 1, 2), (g6, 2), (g7, 2), (g8, 2)]) (is' := []) (es' := [(.node n x t5, E.tv n (some ⟨g9, 0, none⟩) 2 2)]) (by simp) (by simp) (by simp) (by simp)).put g7 2 1 (.int .i64 ((k2 : Int) + 1)) (by simp) ⟨by omega, .inl (by omega)⟩ (by simp only [List.mem_cons, List.not_mem_nil, or_false, forall_eq_or_imp, forall_eq]; omega) (by simp))
  clear HX3 q0 q1
  go_upto_region 5 with fail
  generalize w3.setCell ⟨g7, 1, none⟩ (.int .i64 ((k2 : Int) + 1)) = w4 at *
  clear p0 p1 p2 p3 p4 p5 p6 p7 q2 q3
  refine wp_region_held_drew (S := fun W => SX w [(g8, 0, .int .i64 n), (g8, 1, .slice (some ⟨g9, 0, none⟩) 2 2), (g7, 0, .int .i64 (k1 : Int)), (g7, 1, .int .i64 ((k2 : Int) + 1))] [(w.heap.size, 2), (w.heap.size + 1, 2), (w.heap.size + 1 + 1, 2), (g6, 2), (g7, 2), (g8, 2)] [] [(.node n x t5, E.tv n (some ⟨g9, 0, none⟩) 2 2)] W) (by kernel_rfl) ((HX4.out.drew).sub (by simp) (by simp) (by simp) (by simp)) (fun hS => ?_)
  have HXd := Lib.hid (HX4.out.drew)
  clear HX4
  generalize w4.drew = wd at *
  refine wpAnyH_take (i := 0) (v := ?_) rfl (by kernel_rfl) (by kernel_rfl) (by kernel_rfl) (fun _ _ _ h => h) (Or.inl ⟨by kernel_rfl, fun W hW => ?_⟩) hS ?_
  rotate_left
  · have f := hW.at0
    simp only [List.mem_cons, List.not_mem_nil, or_false, forall_eq_or_imp, forall_eq] at f
    obtain ⟨p0, p1, p2, p3⟩ := f
    first | (go_simp; done) | (go_simp; with_reducible rfl)
  refine wpAnyH_take (i := 1) (v := ?_) rfl (by kernel_rfl) (by kernel_rfl) (by kernel_rfl) (fun _ _ _ h => h) (Or.inl ⟨by kernel_rfl, fun W hW => ?_⟩) hS ?_
  rotate_left
  · have f := hW.at0
    simp only [List.mem_cons, List.not_mem_nil, or_false, forall_eq_or_imp, forall_eq] at f
    obtain ⟨p0, p1, p2, p3⟩ := f
    first | (go_simp; done) | (go_simp; with_reducible rfl)
  refine wpAnyH_ready (rs := [2]) (by kernel_rfl) (by simp) ?_
  refine AllReadyH.cons rfl (fun K hK => ?_) AllReadyH.nil
  obtain ⟨y0, y1, q0, q1, q2, q3⟩ := HXd.out.facts2 (w.heap.size + 1) (by simp)
  go_simp
  go_wp2
  have HXdx := Lib.hid ((HXd.out.sub (bs' := [(g8, 0, .int .i64 n), (g8, 1, .slice (some ⟨g9, 0, none⟩) 2 2), (g7, 0, .int .i64 (k1 : Int)), (g7, 1, .int .i64 ((k2 : Int) + 1))]) (rs' := [(w.heap.size, 2), (w.heap.size + 1, 2), (w.heap.size + 1 + 1, 2), (g6, 2), (g7, 2), (g8, 2)]) (is' := []) (es' := [(.node n x t5, E.tv n (some ⟨g9, 0, none⟩) 2 2)]) (by simp) (by simp) (by simp) (by simp)).set2 (w.heap.size + 1) (.int .i64 n) (.slice (some ⟨g9, 0, none⟩) 2 2) (by simp) (by simp only [List.mem_cons, List.not_mem_nil, or_false, forall_eq_or_imp, forall_eq]; omega) (by simp))
  clear q0 q1 q2 q3 HXd
  refine hK.out _ _ (HXdx.out.sub (by simp) (by simp) (by simp) (by simp)) (fun hS => ?_)
  clear hK K
  generalize (wd.setCell ⟨w.heap.size + 1, 0, none⟩ (.int .i64 n)).setCell ⟨w.heap.size + 1, 1, none⟩ (.slice (some ⟨g9, 0, none⟩) 2 2) = wdx at *
  refine wpAnyH_ready (rs := [3]) (by kernel_rfl) (by simp) ?_
  refine AllReadyH.cons rfl (fun K hK => ?_) AllReadyH.nil
  obtain ⟨y0, y1, q0, q1, q2, q3⟩ := HXdx.out.facts2 (w.heap.size + 1 + 1) (by simp)
  go_simp
  go_wp2
  have HXdxx := Lib.hid ((HXdx.out.sub (bs' := [(g8, 0, .int .i64 n), (g8, 1, .slice (some ⟨g9, 0, none⟩) 2 2), (g7, 0, .int .i64 (k1 : Int)), (g7, 1, .int .i64 ((k2 : Int) + 1)), (w.heap.size + 1, 0, (.int .i64 n)), (w.heap.size + 1, 1, (.slice (some ⟨g9, 0, none⟩) 2 2))]) (rs' := [(w.heap.size, 2), (w.heap.size + 1, 2), (w.heap.size + 1 + 1, 2), (g6, 2), (g7, 2), (g8, 2)]) (is' := []) (es' := [(.node n x t5, E.tv n (some ⟨g9, 0, none⟩) 2 2)]) (by simp) (by simp) (by simp) (by simp)).set2 (w.heap.size + 1 + 1) (.int .i64 (k1 : Int)) (.int .i64 ((k2 : Int) + 1)) (by simp) (by simp only [List.mem_cons, List.not_mem_nil, or_false, forall_eq_or_imp, forall_eq]; omega) (by simp))
  clear q0 q1 q2 q3 HXdx
  refine hK.out _ _ (HXdxx.out.sub (by simp) (by simp) (by simp) (by simp)) (fun hS => ?_)
  clear hK K
  generalize (wdx.setCell ⟨w.heap.size + 1 + 1, 0, none⟩ (.int .i64 (k1 : Int))).setCell ⟨w.heap.size + 1 + 1, 1, none⟩ (.int .i64 ((k2 : Int) + 1)) = wdxx at *
  try go_simp
  refine wpAnyH_done (by kernel_rfl) ?_ _
  have f := HXdxx.out.at0
  simp only [List.mem_cons, List.not_mem_nil, or_false, forall_eq_or_imp, forall_eq] at f
  obtain ⟨p0, p1, p2, p3, p4, p5, p6, p7⟩ := f
  go_wp2
  refine bodyPost_ret (v := .tuple #[E.tv n (some ⟨g9, 0, none⟩) 2 2, cv (k1, k2 + 1)]) (by simp [results, Tryz.f162, go_sem, E.tv, cv, *]) rfl ?_
  exact ⟨_, rfl, HXdxx.out.eget (by simp), HXdxx.out.bel⟩
end Go.Proofs.YtoaglkjpjolacaaGreatDoor.S
