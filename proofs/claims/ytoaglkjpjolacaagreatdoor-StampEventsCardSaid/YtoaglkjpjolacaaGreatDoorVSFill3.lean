/-
  Stamps: the fill of a node's identity.
-/
import Derived.Test.YtoaglkjpjolacaaGreatDoorVS1
import Derived.OrdersHeld
import Derived.Deep.RegionHeld
import Derived.Deep.DeepCutAuto
import Derived.Laws.EntriesVeiled
namespace Go.Proofs.YtoaglkjpjolacaaGreatDoor.S
open Go.RowKit
set_option maxRecDepth 100000 in
set_option maxHeartbeats 1600000 in
theorem fill3_leaf {z : Int} {A : Option Addr} {c : Nat} {p1 p2 p3 : Value} (w : World) : Calls Tryz.prog 80 #[E.tv z A 0 c, p1, p2, p3] w (TreeI (.leaf z) w) := by
  have HX0 := Lib.hid (((SX.begin w).two (.int .i64 z) (.slice A 0 c) 27).two (.int .i64 0) (.slice none 0 0) 27)
  have hc := sleaf_any z A 0 c ((w.alloc (.cells #[.int .i64 z, .slice A 0 c] 27)).alloc (.cells #[.int .i64 0, .slice none 0 0] 27))
  rw [show decide ((0 : Nat) = 0) = true from rfl] at hc
  simp only [List.nil_append, List.cons_append, World.size_alloc] at HX0
  unfold E.tv at *
  go_enter Tryz.func80, Tryz.ntmps80
  go_wp2_with fail
  refine hc.mono ?_
  rintro e w1 ⟨rfl, hb1⟩
  have HX1 := Lib.hid (HX0.out.next hb1)
  clear hb1 hc HX0
  have f := HX1.out.at0
  simp only [List.mem_cons, List.not_mem_nil, or_false, forall_eq_or_imp, forall_eq] at f
  obtain ⟨q0, q1, k0, k1⟩ := f
  have k2 := HX1.out.thaw (w.heap.size + 1) 2 (by simp) 0
  have k3 := HX1.out.thaw (w.heap.size + 1) 2 (by simp) 1
  go_wp2
  refine bodyPost_ret (v := E.tv z A 0 c) (by simp [results, Tryz.f80, go_sem, E.tv, k0, k1]) rfl ?_
  refine ⟨_, rfl, ⟨A, c, rfl⟩, (HX1.out.bel.setCell (p := ⟨w.heap.size + 1, 0, none⟩) (by show _ ≤ _ + 1; omega) _).setCell (p := ⟨w.heap.size + 1, 1, none⟩) (by show _ ≤ _ + 1; omega) _⟩

set_option maxRecDepth 100000 in
set_option maxHeartbeats 6400000 in
theorem fill3_node {l r : I.Tr} {x y : E.Tr} {F1 F2 : Value} {g1 g2 g3 bi oi ci b off c : Nat} {z oa ob : Int} {ol or' : Bool} {Al Ar Aa Ab : Option Addr} {nl cl nr cr na ca nb cb : Nat} (w : World)
    (i0 : w.cell? ⟨g1, 0, none⟩ = some (.bool false)) (i1 : w.cell? ⟨g1, 1, none⟩ = some (.slice (some ⟨bi, oi, none⟩) 2 ci))
    (i2 : w.cell? ⟨bi, oi, none⟩ = some (.bool ol)) (i3 : w.cell? ⟨bi, oi + 1, none⟩ = some (.slice Al nl cl)) (i4 : w.cell? ⟨bi, oi + 2, none⟩ = some (.bool or')) (i5 : w.cell? ⟨bi, oi + 3, none⟩ = some (.slice Ar nr cr))
    (il : IT w l (I.tv ol Al nl cl)) (ir : IT w r (I.tv or' Ar nr cr))
    (j2 : w.cell? ⟨g2, 0, none⟩ = some F1) (j3 : w.cell? ⟨g3, 0, none⟩ = some F2) (h1 : FillC w l F1) (h2 : FillC w r F2)
    (e0 : w.cell? ⟨b, off, none⟩ = some (.int .i64 oa)) (e1 : w.cell? ⟨b, off + 1, none⟩ = some (.slice Aa na ca)) (e2 : w.cell? ⟨b, off + 2, none⟩ = some (.int .i64 ob)) (e3 : w.cell? ⟨b, off + 3, none⟩ = some (.slice Ab nb cb))
    (ex : ET w x (E.tv oa Aa na ca)) (ey : ET w y (E.tv ob Ab nb cb)) (okx : E.okT x = true) (oky : E.okT y = true) :
    Calls Tryz.prog 80 #[E.tv z (some ⟨b, off, none⟩) 2 c, .pointer (some ⟨g1, 0, none⟩), .pointer (some ⟨g3, 0, none⟩), .pointer (some ⟨g2, 0, none⟩)] w (TreeI (fillT (.node l r) (.node z x y)) w) := by
  obtain ⟨fn1, caps1, rfl, en1, cal1⟩ := h1
  obtain ⟨fn2, caps2, rfl, en2, cal2⟩ := h2
  have HX0 := Lib.hid (((SX.begin w).two (.int .i64 z) (.slice (some ⟨b, off, none⟩) 2 c) 27).two (.int .i64 0) (.slice none 0 0) 27)
  have hc := sleaf_any z (some ⟨b, off, none⟩) 2 c ((w.alloc (.cells #[.int .i64 z, .slice (some ⟨b, off, none⟩) 2 c] 27)).alloc (.cells #[.int .i64 0, .slice none 0 0] 27))
  rw [show decide ((2 : Nat) = 0) = false from rfl] at hc
  simp only [List.nil_append, List.cons_append, World.size_alloc] at HX0
  have l1 : g1 < w.heap.size := World.block_lt_of_cell? w _ i0
  have l2 : g2 < w.heap.size := World.block_lt_of_cell? w _ j2
  have l3 : g3 < w.heap.size := World.block_lt_of_cell? w _ j3
  have li : bi < w.heap.size := World.block_lt_of_cell? w _ i2
  have lb : b < w.heap.size := World.block_lt_of_cell? w _ e0
  -- what lay there lies there still
  have HO : Hid (∀ W, Below w.heap.size w W → W.cell? ⟨g1, 0, none⟩ = some (.bool false) ∧ W.cell? ⟨g1, 1, none⟩ = some (.slice (some ⟨bi, oi, none⟩) 2 ci) ∧ W.cell? ⟨bi, oi, none⟩ = some (.bool ol) ∧ W.cell? ⟨bi, oi + 1, none⟩ = some (.slice Al nl cl) ∧ W.cell? ⟨bi, oi + 2, none⟩ = some (.bool or') ∧ W.cell? ⟨bi, oi + 3, none⟩ = some (.slice Ar nr cr) ∧ W.cell? ⟨g2, 0, none⟩ = some (.func (.func fn1) #[] caps1) ∧ W.cell? ⟨g3, 0, none⟩ = some (.func (.func fn2) #[] caps2) ∧ W.cell? ⟨b, off, none⟩ = some (.int .i64 oa) ∧ W.cell? ⟨b, off + 1, none⟩ = some (.slice Aa na ca) ∧ W.cell? ⟨b, off + 2, none⟩ = some (.int .i64 ob) ∧ W.cell? ⟨b, off + 3, none⟩ = some (.slice Ab nb cb)) :=
    fun W hb => ⟨(hb.cell l1).trans i0, (hb.cell l1).trans i1, (hb.cell li).trans i2, (hb.cell li).trans i3, (hb.cell li).trans i4, (hb.cell li).trans i5, (hb.cell l2).trans j2, (hb.cell l3).trans j3, (hb.cell lb).trans e0, (hb.cell lb).trans e1, (hb.cell lb).trans e2, (hb.cell lb).trans e3⟩
  have IL := Lib.hid il
  have IR := Lib.hid ir
  have EX := Lib.hid ex
  have EY := Lib.hid ey
  have CAL1 := Lib.hid cal1
  have CAL2 := Lib.hid cal2
  have OKX := Lib.hid okx
  have OKY := Lib.hid oky
  clear i0 i1 i2 i3 i4 i5 j2 j3 e0 e1 e2 e3 il ir ex ey cal1 cal2 okx oky l1 l2 l3 li lb
  unfold E.tv at hc ⊢
  go_enter Tryz.func80, Tryz.ntmps80
  go_wp2_with fail
  refine hc.mono ?_
  rintro e w1 ⟨rfl, hb1⟩
  have HX1 := Lib.hid (HX0.out.next hb1)
  have s1 : w.heap.size + 2 ≤ w1.heap.size := by have := hb1.size; simpa using this
  clear hb1 hc HX0
  go_upto_region 3 with fail
  go_cut [6, 7] (fun s6 s7 wx => ∃ g6 g7 : Nat, s6 = .pointer (some ⟨g6, 0, none⟩) ∧ s7 = .pointer (some ⟨g7, 0, none⟩) ∧ w.heap.size + 2 ≤ g6 ∧ w.heap.size + 2 ≤ g7 ∧ g6 ≠ g7 ∧ SX w [(w.heap.size, 0, .int .i64 z), (w.heap.size, 1, .slice (some ⟨b, off, none⟩) 2 c), (g6, 0, .int .i64 oa), (g6, 1, .slice Aa na ca), (g7, 0, .int .i64 ob), (g7, 1, .slice Ab nb cb)] [(w.heap.size, 2), (w.heap.size + 1, 2), (g6, 2), (g7, 2)] [] [] wx)
  case first =>
    refine wp_region_held_drew (S := fun W => SX w [(w.heap.size, 0, .int .i64 z), (w.heap.size, 1, .slice (some ⟨b, off, none⟩) 2 c)] [(w.heap.size, 2), (w.heap.size + 1, 2)] [] [] W) (by kernel_rfl) ((HX1.out.drew).sub0 (by simp) (by simp)) (fun hS => ?_)
    have HXd := Lib.hid ((HX1.out.drew).sub0 (bs' := [(w.heap.size, 0, .int .i64 z), (w.heap.size, 1, .slice (some ⟨b, off, none⟩) 2 c)]) (rs' := [(w.heap.size, 2), (w.heap.size + 1, 2)]) (by simp) (by simp))
    have sd : w.heap.size + 2 ≤ w1.drew.heap.size := by simpa using s1
    clear HX1
    generalize w1.drew = wd at *
    refine wpAnyH_take (i := 0) (v := ?_) rfl (by kernel_rfl) (by kernel_rfl) (by kernel_rfl) (fun _ _ _ h => h) (Yields.yieldsIf (Or.inl ⟨by kernel_rfl, ?_⟩)) hS ?_
    rotate_left
    · first | (intro w; go_simp; done) | (intro w; go_simp; with_reducible rfl)
    refine wpAnyH_take (i := 1) (v := ?_) rfl (by kernel_rfl) (by kernel_rfl) (by kernel_rfl) (fun _ _ _ h => h) (Or.inl ⟨by kernel_rfl, fun W hW => ?_⟩) hS ?_
    rotate_left
    · obtain ⟨a0, a1, a2, a3, a4, a5, a6, a7, a8, a9, a10, a11⟩ := HO.out W hW.bel
      have f := hW.at0
      simp only [List.mem_cons, List.not_mem_nil, or_false, forall_eq_or_imp, forall_eq] at f
      obtain ⟨p0, p1⟩ := f
      first | (go_simp; done) | (go_simp; with_reducible rfl)
    refine wpAnyH_take (i := 2) (v := ?_) rfl (by kernel_rfl) (by kernel_rfl) (by kernel_rfl) (fun _ _ _ h => h) (Yields.yieldsIf (Or.inl ⟨by kernel_rfl, ?_⟩)) hS ?_
    rotate_left
    · first | (intro w; go_simp; done) | (intro w; go_simp; with_reducible rfl)
    refine wpAnyH_take (i := 3) (v := ?_) rfl (by kernel_rfl) (by kernel_rfl) (by kernel_rfl) (fun _ _ _ h => h) (Or.inl ⟨by kernel_rfl, fun W hW => ?_⟩) hS ?_
    rotate_left
    · obtain ⟨a0, a1, a2, a3, a4, a5, a6, a7, a8, a9, a10, a11⟩ := HO.out W hW.bel
      have f := hW.at0
      simp only [List.mem_cons, List.not_mem_nil, or_false, forall_eq_or_imp, forall_eq] at f
      obtain ⟨p0, p1⟩ := f
      first | (go_simp; done) | (go_simp; with_reducible rfl)
    refine wpAnyH_take (i := 4) (v := ?_) rfl (by kernel_rfl) (by kernel_rfl) (by kernel_rfl) (fun _ _ _ h => h) (Yields.yieldsIf (Or.inl ⟨by kernel_rfl, ?_⟩)) hS ?_
    rotate_left
    · first | (intro w; go_simp; done) | (intro w; go_simp; with_reducible rfl)
    refine wpAnyH_take (i := 5) (v := ?_) rfl (by kernel_rfl) (by kernel_rfl) (by kernel_rfl) (fun _ _ _ h => h) (Or.inl ⟨by kernel_rfl, fun W hW => ?_⟩) hS ?_
    rotate_left
    · obtain ⟨a0, a1, a2, a3, a4, a5, a6, a7, a8, a9, a10, a11⟩ := HO.out W hW.bel
      have f := hW.at0
      simp only [List.mem_cons, List.not_mem_nil, or_false, forall_eq_or_imp, forall_eq] at f
      obtain ⟨p0, p1⟩ := f
      first | (go_simp; done) | (go_simp; with_reducible rfl)
    refine wpAnyH_take (i := 6) (v := ?_) rfl (by kernel_rfl) (by kernel_rfl) (by kernel_rfl) (fun _ _ _ h => h) (Yields.yieldsIf (Or.inl ⟨by kernel_rfl, ?_⟩)) hS ?_
    rotate_left
    · first | (intro w; go_simp; done) | (intro w; go_simp; with_reducible rfl)
    refine wpAnyH_take (i := 7) (v := ?_) rfl (by kernel_rfl) (by kernel_rfl) (by kernel_rfl) (fun _ _ _ h => h) (Or.inl ⟨by kernel_rfl, fun W hW => ?_⟩) hS ?_
    rotate_left
    · obtain ⟨a0, a1, a2, a3, a4, a5, a6, a7, a8, a9, a10, a11⟩ := HO.out W hW.bel
      have f := hW.at0
      simp only [List.mem_cons, List.not_mem_nil, or_false, forall_eq_or_imp, forall_eq] at f
      obtain ⟨p0, p1⟩ := f
      first | (go_simp; done) | (go_simp; with_reducible rfl)
    refine wpAnyH_ready (rs := [8, 9]) (by kernel_rfl) (by simp) ?_
    refine AllReadyH.cons rfl (fun K hK => ?_) (AllReadyH.cons rfl (fun K hK => ?_) AllReadyH.nil)
    · go_simp
      go_wp2
      have HXda' := HXd.out.two (.int .i64 0) (.slice none 0 0) 27
      have HXda := Lib.hid HXda'
      clear HXda'
      simp only [List.nil_append, List.cons_append] at HXda
      refine hK.out _ _ (HXda.out.sub0 (by simp) (by simp)) (fun hS => ?_)
      clear hK K
      have szHXda : wd.heap.size < (wd.alloc (.cells #[.int .i64 0, .slice none 0 0] 27)).heap.size := by simp
      generalize wd.alloc (.cells #[.int .i64 0, .slice none 0 0] 27) = wda at *
      refine wpAnyH_ready (rs := [9]) (by kernel_rfl) (by simp) ?_
      refine AllReadyH.cons rfl (fun K hK => ?_) AllReadyH.nil
      go_simp
      go_wp2
      have HXdaa' := HXda.out.two (.int .i64 0) (.slice none 0 0) 27
      have HXdaa := Lib.hid HXdaa'
      clear HXdaa'
      simp only [List.nil_append, List.cons_append] at HXdaa
      refine hK.out _ _ (HXdaa.out.sub0 (by simp) (by simp)) (fun hS => ?_)
      clear hK K
      have szHXdaa : wda.heap.size < (wda.alloc (.cells #[.int .i64 0, .slice none 0 0] 27)).heap.size := by simp
      generalize wda.alloc (.cells #[.int .i64 0, .slice none 0 0] 27) = wdaa at *
      refine wpAnyH_ready (rs := [10]) (by kernel_rfl) (by simp) ?_
      refine AllReadyH.cons rfl (fun K hK => ?_) AllReadyH.nil
      obtain ⟨y0, y1, k0, k1, k2, k3⟩ := HXdaa.out.facts2 (wd.heap.size) (by simp)
      go_simp
      go_wp2
      have HXdaas' := (HXdaa.out.sub (bs' := [(w.heap.size, 0, .int .i64 z), (w.heap.size, 1, .slice (some ⟨b, off, none⟩) 2 c), (wda.heap.size, 0, .int .i64 0), (wda.heap.size, 1, .slice none 0 0)]) (rs' := [(w.heap.size, 2), (w.heap.size + 1, 2), (wd.heap.size, 2), (wda.heap.size, 2)]) (is' := []) (es' := []) (by simp) (by simp) (by simp) (by simp)).set2 (wd.heap.size) (.int .i64 oa) (.slice Aa na ca) (by simp) (by simp only [List.mem_cons, List.not_mem_nil, or_false, forall_eq_or_imp, forall_eq]; omega) (by simp)
      have HXdaas := Lib.hid HXdaas'
      clear HXdaas' k0 k1 k2 k3
      refine hK.out _ _ (HXdaas.out.sub0 (by simp) (by simp)) (fun hS => ?_)
      clear hK K
      generalize (wdaa.setCell ⟨wd.heap.size, 0, none⟩ (.int .i64 oa)).setCell ⟨wd.heap.size, 1, none⟩ (.slice Aa na ca) = wdaas at *
      refine wpAnyH_ready (rs := [11]) (by kernel_rfl) (by simp) ?_
      refine AllReadyH.cons rfl (fun K hK => ?_) AllReadyH.nil
      obtain ⟨y0, y1, k0, k1, k2, k3⟩ := HXdaas.out.facts2 (wda.heap.size) (by simp)
      go_simp
      go_wp2
      have HXdaass' := (HXdaas.out.sub (bs' := [(w.heap.size, 0, .int .i64 z), (w.heap.size, 1, .slice (some ⟨b, off, none⟩) 2 c), (wd.heap.size, 0, .int .i64 oa), (wd.heap.size, 1, .slice Aa na ca)]) (rs' := [(w.heap.size, 2), (w.heap.size + 1, 2), (wd.heap.size, 2), (wda.heap.size, 2)]) (is' := []) (es' := []) (by simp) (by simp) (by simp) (by simp)).set2 (wda.heap.size) (.int .i64 ob) (.slice Ab nb cb) (by simp) (by simp only [List.mem_cons, List.not_mem_nil, or_false, forall_eq_or_imp, forall_eq]; omega) (by simp)
      have HXdaass := Lib.hid HXdaass'
      clear HXdaass' k0 k1 k2 k3
      refine hK.out _ _ (HXdaass.out.sub0 (by simp) (by simp)) (fun hS => ?_)
      clear hK K
      generalize (wdaas.setCell ⟨wda.heap.size, 0, none⟩ (.int .i64 ob)).setCell ⟨wda.heap.size, 1, none⟩ (.slice Ab nb cb) = wdaass at *
      try go_simp
      refine wpAnyH_done (by kernel_rfl) ?_ _
      go_wp2_with fail
      go_meet
      exact ⟨wd.heap.size, wda.heap.size, rfl, rfl, by omega, by omega, by omega, HXdaass.out.sub0 (by simp) (by simp)⟩
    · go_simp
      go_wp2
      have HXda' := HXd.out.two (.int .i64 0) (.slice none 0 0) 27
      have HXda := Lib.hid HXda'
      clear HXda'
      simp only [List.nil_append, List.cons_append] at HXda
      refine hK.out _ _ (HXda.out.sub0 (by simp) (by simp)) (fun hS => ?_)
      clear hK K
      have szHXda : wd.heap.size < (wd.alloc (.cells #[.int .i64 0, .slice none 0 0] 27)).heap.size := by simp
      generalize wd.alloc (.cells #[.int .i64 0, .slice none 0 0] 27) = wda at *
      refine wpAnyH_ready (rs := [8]) (by kernel_rfl) (by simp) ?_
      refine AllReadyH.cons rfl (fun K hK => ?_) AllReadyH.nil
      go_simp
      go_wp2
      have HXdaa' := HXda.out.two (.int .i64 0) (.slice none 0 0) 27
      have HXdaa := Lib.hid HXdaa'
      clear HXdaa'
      simp only [List.nil_append, List.cons_append] at HXdaa
      refine hK.out _ _ (HXdaa.out.sub0 (by simp) (by simp)) (fun hS => ?_)
      clear hK K
      have szHXdaa : wda.heap.size < (wda.alloc (.cells #[.int .i64 0, .slice none 0 0] 27)).heap.size := by simp
      generalize wda.alloc (.cells #[.int .i64 0, .slice none 0 0] 27) = wdaa at *
      refine wpAnyH_ready (rs := [10]) (by kernel_rfl) (by simp) ?_
      refine AllReadyH.cons rfl (fun K hK => ?_) AllReadyH.nil
      obtain ⟨y0, y1, k0, k1, k2, k3⟩ := HXdaa.out.facts2 (wda.heap.size) (by simp)
      go_simp
      go_wp2
      have HXdaas' := (HXdaa.out.sub (bs' := [(w.heap.size, 0, .int .i64 z), (w.heap.size, 1, .slice (some ⟨b, off, none⟩) 2 c), (wd.heap.size, 0, .int .i64 0), (wd.heap.size, 1, .slice none 0 0)]) (rs' := [(w.heap.size, 2), (w.heap.size + 1, 2), (wd.heap.size, 2), (wda.heap.size, 2)]) (is' := []) (es' := []) (by simp) (by simp) (by simp) (by simp)).set2 (wda.heap.size) (.int .i64 oa) (.slice Aa na ca) (by simp) (by simp only [List.mem_cons, List.not_mem_nil, or_false, forall_eq_or_imp, forall_eq]; omega) (by simp)
      have HXdaas := Lib.hid HXdaas'
      clear HXdaas' k0 k1 k2 k3
      refine hK.out _ _ (HXdaas.out.sub0 (by simp) (by simp)) (fun hS => ?_)
      clear hK K
      generalize (wdaa.setCell ⟨wda.heap.size, 0, none⟩ (.int .i64 oa)).setCell ⟨wda.heap.size, 1, none⟩ (.slice Aa na ca) = wdaas at *
      refine wpAnyH_ready (rs := [11]) (by kernel_rfl) (by simp) ?_
      refine AllReadyH.cons rfl (fun K hK => ?_) AllReadyH.nil
      obtain ⟨y0, y1, k0, k1, k2, k3⟩ := HXdaas.out.facts2 (wd.heap.size) (by simp)
      go_simp
      go_wp2
      have HXdaass' := (HXdaas.out.sub (bs' := [(w.heap.size, 0, .int .i64 z), (w.heap.size, 1, .slice (some ⟨b, off, none⟩) 2 c), (wda.heap.size, 0, .int .i64 oa), (wda.heap.size, 1, .slice Aa na ca)]) (rs' := [(w.heap.size, 2), (w.heap.size + 1, 2), (wd.heap.size, 2), (wda.heap.size, 2)]) (is' := []) (es' := []) (by simp) (by simp) (by simp) (by simp)).set2 (wd.heap.size) (.int .i64 ob) (.slice Ab nb cb) (by simp) (by simp only [List.mem_cons, List.not_mem_nil, or_false, forall_eq_or_imp, forall_eq]; omega) (by simp)
      have HXdaass := Lib.hid HXdaass'
      clear HXdaass' k0 k1 k2 k3
      refine hK.out _ _ (HXdaass.out.sub0 (by simp) (by simp)) (fun hS => ?_)
      clear hK K
      generalize (wdaas.setCell ⟨wd.heap.size, 0, none⟩ (.int .i64 ob)).setCell ⟨wd.heap.size, 1, none⟩ (.slice Ab nb cb) = wdaass at *
      try go_simp
      refine wpAnyH_done (by kernel_rfl) ?_ _
      go_wp2_with fail
      go_meet
      exact ⟨wda.heap.size, wd.heap.size, rfl, rfl, by omega, by omega, by omega, HXdaass.out.sub0 (by simp) (by simp)⟩
  case rest =>
  obtain ⟨g6, g7, rfl, rfl, n6, n7, n67, hX2⟩ := hcut
  have HX2 := Lib.hid hX2
  clear hX2 HX1
  have hc := sone_any l (I.tv ol Al nl cl) wc (IL.out.up HX2.out.bel)
  unfold I.tv at hc
  obtain ⟨a0, a1, a2, a3, a4, a5, a6, a7, a8, a9, a10, a11⟩ := HO.out wc HX2.out.bel
  go_wp2_with fail
  refine hc.mono ?_
  rintro e w2 ⟨rfl, hb2⟩
  have HX3 := Lib.hid (HX2.out.next hb2)
  clear hb2 hc HX2 a0 a1 a2 a3 a4 a5 a6 a7 a8 a9 a10 a11
  by_cases hl : one l = true
  · rw [hl]
    have hcall := CAL2.out w2 y (E.tv ob Ab nb cb) HX3.out.bel (E.InP.up EY.out HX3.out.bel) OKY.out
    unfold E.tv at hcall
    obtain ⟨a0, a1, a2, a3, a4, a5, a6, a7, a8, a9, a10, a11⟩ := HO.out w2 HX3.out.bel
    have f := HX3.out.at0
    simp only [List.mem_cons, List.not_mem_nil, or_false, forall_eq_or_imp, forall_eq] at f
    obtain ⟨p0, p1, p2, p3, p4, p5⟩ := f
    go_wp2_with fail
    refine hcall.mono ?_
    rintro e w5 ⟨v5, rfl, ht5, hb5⟩
    have hok5 : E.okT (fillT r y) = true := fill_ok _ OKY.out
    obtain ⟨A5, n5, c5, rfl⟩ := E.InP.form ht5
    obtain ⟨z5, hz5⟩ : ∃ z5, (fillT r y).N = z5 := ⟨_, rfl⟩
    rw [hz5] at ht5 ⊢
    clear hz5
    have HX5 := Lib.hid ((HX3.out.next hb5).e ht5)
    have OK5 := Lib.hid hok5
    clear hcall ht5 hb5 hok5 HX3 a0 a1 a2 a3 a4 a5 a6 a7 a8 a9 a10 a11 p0 p1 p2 p3 p4 p5
    unfold E.tv
    obtain ⟨y0, y1, k0, k1, k2, k3⟩ := HX5.out.facts2 g7 (by simp)
    have HX6 := Lib.hid ((HX5.out.sub (bs' := [(w.heap.size, 0, .int .i64 z), (w.heap.size, 1, .slice (some ⟨b, off, none⟩) 2 c), (g6, 0, .int .i64 oa), (g6, 1, .slice Aa na ca)]) (rs' := [(w.heap.size, 2), (w.heap.size + 1, 2), (g6, 2), (g7, 2)]) (is' := []) (es' := [(fillT r y, E.tv z5 A5 n5 c5)]) (by simp) (by simp) (by simp) (by simp)).set2 g7 (.int .i64 z5) (.slice A5 n5 c5) (by simp) (by simp only [List.mem_cons, List.not_mem_nil, or_false, forall_eq_or_imp, forall_eq]; omega) (by simp))
    clear HX5
    go_upto_region 7 with fail
    generalize (w5.setCell ⟨g7, 0, none⟩ (.int .i64 z5)).setCell ⟨g7, 1, none⟩ (.slice A5 n5 c5) = w6 at *
    clear k0 k1 k2 k3
    refine wp_region_held_drew (S := fun W => SX w [(w.heap.size, 0, .int .i64 z), (w.heap.size, 1, .slice (some ⟨b, off, none⟩) 2 c), (g7, 0, .int .i64 z5), (g7, 1, .slice A5 n5 c5)] [(w.heap.size, 2), (w.heap.size + 1, 2), (g6, 2), (g7, 2)] [] [(fillT r y, E.tv z5 A5 n5 c5)] W) (by kernel_rfl) ((HX6.out.drew).sub (by simp) (by simp) (by simp) (by simp)) (fun hS => ?_)
    have HXd := Lib.hid ((HX6.out.drew).sub (bs' := [(w.heap.size, 0, .int .i64 z), (w.heap.size, 1, .slice (some ⟨b, off, none⟩) 2 c), (g6, 0, .int .i64 oa), (g6, 1, .slice Aa na ca), (g7, 0, .int .i64 z5), (g7, 1, .slice A5 n5 c5)]) (rs' := [(w.heap.size, 2), (w.heap.size + 1, 2), (g6, 2), (g7, 2)]) (is' := []) (es' := [(fillT r y, E.tv z5 A5 n5 c5)]) (by simp) (by simp) (by simp) (by simp))
    clear HX6
    generalize w6.drew = wd at *
    refine wpAnyH_take (i := 2) (v := ?_) rfl (by kernel_rfl) (by kernel_rfl) (by kernel_rfl) (fun _ _ _ h => h) (Or.inl ⟨by kernel_rfl, fun W hW => ?_⟩) hS ?_
    rotate_left
    · obtain ⟨a0, a1, a2, a3, a4, a5, a6, a7, a8, a9, a10, a11⟩ := HO.out W hW.bel
      have f := hW.at0
      simp only [List.mem_cons, List.not_mem_nil, or_false, forall_eq_or_imp, forall_eq] at f
      obtain ⟨p0, p1, p2, p3⟩ := f
      first | (go_simp; done) | (go_simp; with_reducible rfl)
    refine wpAnyH_ready (rs := [0]) (by kernel_rfl) (by simp) ?_
    refine AllReadyH.cons rfl (fun K hK => ?_) AllReadyH.nil
    have f := HXd.out.at0
    simp only [List.mem_cons, List.not_mem_nil, or_false, forall_eq_or_imp, forall_eq] at f
    obtain ⟨p0, p1, p2, p3, p4, p5⟩ := f
    go_simp
    have hS3 : SX w [(w.heap.size, 0, .int .i64 z), (w.heap.size, 1, .slice (some ⟨b, off, none⟩) 2 c), (g7, 0, .int .i64 z5), (g7, 1, .slice A5 n5 c5)] [(w.heap.size, 2), (w.heap.size + 1, 2), (g6, 2), (g7, 2)] [] [(fillT r y, E.tv z5 A5 n5 c5)] wd := HXd.out.sub (by simp) (by simp) (by simp) (by simp)
    clear p0 p1 p2 p3 p4 p5
    refine hK.out _ _ hS3 (fun hS => ?_)
    clear hK K hS3
    refine wpAnyH_ready (rs := [1]) (by kernel_rfl) (by simp) ?_
    refine AllReadyH.cons rfl (fun K hK => ?_) AllReadyH.nil
    go_simp
    have hcall := fun W (hb : Below w.heap.size w W) => most_any x (E.tv oa Aa na ca) W (E.InP.up EX.out hb) OKX.out
    unfold E.tv at hcall
    go_wp2_with (go_at_call 79; refine (hcall _ HXd.out.bel).mono ?_; rintro e w7 ⟨rfl, hb7⟩)
    have HX7 := Lib.hid (HXd.out.next hb7)
    clear hb7 hcall HXd
    refine hK.out _ _ (HX7.out.sub (by simp) (by simp) (by simp) (by simp)) (fun hS => ?_)
    clear hK K
    refine wpAnyH_ready (rs := [3]) (by kernel_rfl) (by simp) ?_
    refine AllReadyH.cons rfl (fun K hK => ?_) AllReadyH.nil
    go_simp
    have hcall := least_any (fillT r y) (E.tv z5 A5 n5 c5) w7 (HX7.out.eget (by simp)) OK5.out
    unfold E.tv at hcall
    go_wp2_with (go_at_call 82; refine hcall.mono ?_; rintro e w8 ⟨rfl, hb8⟩)
    have HX8 := Lib.hid (HX7.out.next hb8)
    clear hb8 hcall HX7
    refine hK.out _ _ (HX8.out.sub (by simp) (by simp) (by simp) (by simp)) (fun hS => ?_)
    clear hK K
    refine wpAnyH_take (i := 4) (v := ?_) rfl (by kernel_rfl) (by kernel_rfl) (by kernel_rfl) (fun _ _ _ h => h) (Yields.yieldsIf (Or.inl ⟨by kernel_rfl, ?_⟩)) hS ?_
    rotate_left
    · first | (intro w; go_simp; done) | (intro w; go_simp; with_reducible rfl)
    refine wpAnyH_take (i := 5) (v := ?_) rfl (by kernel_rfl) (by kernel_rfl) (by kernel_rfl) (fun _ _ _ h => h) (Yields.yieldsIf (Or.inl ⟨by kernel_rfl, ?_⟩)) hS ?_
    rotate_left
    · first | (intro w; go_simp; done) | (intro w; go_simp; with_reducible rfl)
    refine wpAnyH_ready (rs := [6]) (by kernel_rfl) (by simp) ?_
    refine AllReadyH.cons rfl (fun K hK => ?_) AllReadyH.nil
    obtain ⟨y0, y1, k0, k1, k2, k3⟩ := HX8.out.facts2 g6 (by simp)
    go_simp
    go_wp2
    have HX9 := Lib.hid ((HX8.out.sub (bs' := [(w.heap.size, 0, .int .i64 z), (w.heap.size, 1, .slice (some ⟨b, off, none⟩) 2 c), (g7, 0, .int .i64 z5), (g7, 1, .slice A5 n5 c5)]) (rs' := [(w.heap.size, 2), (w.heap.size + 1, 2), (g6, 2), (g7, 2)]) (is' := []) (es' := [(fillT r y, E.tv z5 A5 n5 c5)]) (by simp) (by simp) (by simp) (by simp)).set2 g6 (.int .i64 (max (E.high x) (E.low (fillT r y)))) (.slice none 0 0) (by simp) (by simp only [List.mem_cons, List.not_mem_nil, or_false, forall_eq_or_imp, forall_eq]; omega) (by simp))
    clear k0 k1 k2 k3 HX8
    refine hK.out _ _ (HX9.out.sub (by simp) (by simp) (by simp) (by simp)) (fun hS => ?_)
    clear hK K
    generalize (w8.setCell ⟨g6, 0, none⟩ (.int .i64 (max (E.high x) (E.low (fillT r y))))).setCell ⟨g6, 1, none⟩ (.slice none 0 0) = w9 at *
    try go_simp
    refine wpAnyH_done (by kernel_rfl) ?_ _
    have hcall := snode_any z (.leaf (max (E.high x) (E.low (fillT r y)))) (fillT r y) (E.tv (max (E.high x) (E.low (fillT r y))) none 0 0) (E.tv z5 A5 n5 c5) w9 ⟨none, 0, rfl⟩ (HX9.out.eget (by simp))
    unfold E.tv at hcall
    have f := HX9.out.at0
    simp only [List.mem_cons, List.not_mem_nil, or_false, forall_eq_or_imp, forall_eq] at f
    obtain ⟨p0, p1, p2, p3, p4, p5⟩ := f
    go_wp2_with fail
    refine hcall.mono ?_
    rintro e wz ⟨vz, rfl, htz, hbz⟩
    obtain ⟨Az, nz, cz, rfl⟩ := E.InP.form htz
    simp only [E.Tr.N] at htz ⊢
    have HXZ := Lib.hid (HX9.out.next hbz)
    clear hcall hbz p0 p1 p2 p3 p4 p5 HX9
    obtain ⟨y0, y1, k0, k1, k2, k3⟩ := HXZ.out.facts2 (w.heap.size + 1) (by simp)
    have HFIN := Lib.hid (HXZ.out.fin (w.heap.size + 1) (by simp) htz (.int .i64 z) (.slice Az nz cz))
    clear htz HXZ
    unfold E.tv
    go_wp2
    refine bodyPost_ret (v := E.tv z Az nz cz) (by simp [results, Tryz.f80, go_sem, E.tv, k0, k1]) rfl ?_
    refine ⟨_, rfl, ?_, HFIN.out.2⟩
    rw [fill_l (by rw [one_iff] at hl ⊢; exact hl)]
    exact HFIN.out.1
  · have hl' : one l = false := by simpa using hl
    rw [hl']
    clear hl
    have hc := sone_any r (I.tv or' Ar nr cr) w2 (IR.out.up HX3.out.bel)
    unfold I.tv at hc
    obtain ⟨a0, a1, a2, a3, a4, a5, a6, a7, a8, a9, a10, a11⟩ := HO.out w2 HX3.out.bel
    go_wp2_with fail
    refine hc.mono ?_
    rintro e w4 ⟨rfl, hb4⟩
    have HX4 := Lib.hid (HX3.out.next hb4)
    clear hb4 hc HX3 a0 a1 a2 a3 a4 a5 a6 a7 a8 a9 a10 a11
    by_cases hr : one r = true
    · rw [hr]
      have hcall := CAL1.out w4 x (E.tv oa Aa na ca) HX4.out.bel (E.InP.up EX.out HX4.out.bel) OKX.out
      unfold E.tv at hcall
      obtain ⟨a0, a1, a2, a3, a4, a5, a6, a7, a8, a9, a10, a11⟩ := HO.out w4 HX4.out.bel
      have f := HX4.out.at0
      simp only [List.mem_cons, List.not_mem_nil, or_false, forall_eq_or_imp, forall_eq] at f
      obtain ⟨p0, p1, p2, p3, p4, p5⟩ := f
      go_wp2_with fail
      refine hcall.mono ?_
      rintro e w5 ⟨v5, rfl, ht5, hb5⟩
      have hok5 : E.okT (fillT l x) = true := fill_ok _ OKX.out
      obtain ⟨A5, n5, c5, rfl⟩ := E.InP.form ht5
      obtain ⟨z5, hz5⟩ : ∃ z5, (fillT l x).N = z5 := ⟨_, rfl⟩
      rw [hz5] at ht5 ⊢
      clear hz5
      have HX5 := Lib.hid ((HX4.out.next hb5).e ht5)
      have OK5 := Lib.hid hok5
      clear hcall ht5 hb5 hok5 HX4 a0 a1 a2 a3 a4 a5 a6 a7 a8 a9 a10 a11 p0 p1 p2 p3 p4 p5
      unfold E.tv
      obtain ⟨y0, y1, k0, k1, k2, k3⟩ := HX5.out.facts2 g6 (by simp)
      have HX6 := Lib.hid ((HX5.out.sub (bs' := [(w.heap.size, 0, .int .i64 z), (w.heap.size, 1, .slice (some ⟨b, off, none⟩) 2 c), (g7, 0, .int .i64 ob), (g7, 1, .slice Ab nb cb)]) (rs' := [(w.heap.size, 2), (w.heap.size + 1, 2), (g6, 2), (g7, 2)]) (is' := []) (es' := [(fillT l x, E.tv z5 A5 n5 c5)]) (by simp) (by simp) (by simp) (by simp)).set2 g6 (.int .i64 z5) (.slice A5 n5 c5) (by simp) (by simp only [List.mem_cons, List.not_mem_nil, or_false, forall_eq_or_imp, forall_eq]; omega) (by simp))
      clear HX5
      go_upto_region 10 with fail
      generalize (w5.setCell ⟨g6, 0, none⟩ (.int .i64 z5)).setCell ⟨g6, 1, none⟩ (.slice A5 n5 c5) = w6 at *
      clear k0 k1 k2 k3
      refine wp_region_held_drew (S := fun W => SX w [(w.heap.size, 0, .int .i64 z), (w.heap.size, 1, .slice (some ⟨b, off, none⟩) 2 c), (g6, 0, .int .i64 z5), (g6, 1, .slice A5 n5 c5)] [(w.heap.size, 2), (w.heap.size + 1, 2), (g6, 2), (g7, 2)] [] [(fillT l x, E.tv z5 A5 n5 c5)] W) (by kernel_rfl) ((HX6.out.drew).sub (by simp) (by simp) (by simp) (by simp)) (fun hS => ?_)
      have HXd := Lib.hid ((HX6.out.drew).sub (bs' := [(w.heap.size, 0, .int .i64 z), (w.heap.size, 1, .slice (some ⟨b, off, none⟩) 2 c), (g7, 0, .int .i64 ob), (g7, 1, .slice Ab nb cb), (g6, 0, .int .i64 z5), (g6, 1, .slice A5 n5 c5)]) (rs' := [(w.heap.size, 2), (w.heap.size + 1, 2), (g6, 2), (g7, 2)]) (is' := []) (es' := [(fillT l x, E.tv z5 A5 n5 c5)]) (by simp) (by simp) (by simp) (by simp))
      clear HX6
      generalize w6.drew = wd at *
      refine wpAnyH_take (i := 2) (v := ?_) rfl (by kernel_rfl) (by kernel_rfl) (by kernel_rfl) (fun _ _ _ h => h) (Or.inl ⟨by kernel_rfl, fun W hW => ?_⟩) hS ?_
      rotate_left
      · obtain ⟨a0, a1, a2, a3, a4, a5, a6, a7, a8, a9, a10, a11⟩ := HO.out W hW.bel
        have f := hW.at0
        simp only [List.mem_cons, List.not_mem_nil, or_false, forall_eq_or_imp, forall_eq] at f
        obtain ⟨p0, p1, p2, p3⟩ := f
        first | (go_simp; done) | (go_simp; with_reducible rfl)
      refine wpAnyH_ready (rs := [0]) (by kernel_rfl) (by simp) ?_
      refine AllReadyH.cons rfl (fun K hK => ?_) AllReadyH.nil
      have f := HXd.out.at0
      simp only [List.mem_cons, List.not_mem_nil, or_false, forall_eq_or_imp, forall_eq] at f
      obtain ⟨p0, p1, p2, p3, p4, p5⟩ := f
      go_simp
      have hS3 : SX w [(w.heap.size, 0, .int .i64 z), (w.heap.size, 1, .slice (some ⟨b, off, none⟩) 2 c), (g6, 0, .int .i64 z5), (g6, 1, .slice A5 n5 c5)] [(w.heap.size, 2), (w.heap.size + 1, 2), (g6, 2), (g7, 2)] [] [(fillT l x, E.tv z5 A5 n5 c5)] wd := HXd.out.sub (by simp) (by simp) (by simp) (by simp)
      clear p0 p1 p2 p3 p4 p5
      refine hK.out _ _ hS3 (fun hS => ?_)
      clear hK K hS3
      refine wpAnyH_ready (rs := [1]) (by kernel_rfl) (by simp) ?_
      refine AllReadyH.cons rfl (fun K hK => ?_) AllReadyH.nil
      go_simp
      have hcall := fun W (hb : Below w.heap.size w W) => most_any y (E.tv ob Ab nb cb) W (E.InP.up EY.out hb) OKY.out
      unfold E.tv at hcall
      go_wp2_with (go_at_call 79; refine (hcall _ HXd.out.bel).mono ?_; rintro e w7 ⟨rfl, hb7⟩)
      have HX7 := Lib.hid (HXd.out.next hb7)
      clear hb7 hcall HXd
      refine hK.out _ _ (HX7.out.sub (by simp) (by simp) (by simp) (by simp)) (fun hS => ?_)
      clear hK K
      refine wpAnyH_ready (rs := [3]) (by kernel_rfl) (by simp) ?_
      refine AllReadyH.cons rfl (fun K hK => ?_) AllReadyH.nil
      go_simp
      have hcall := least_any (fillT l x) (E.tv z5 A5 n5 c5) w7 (HX7.out.eget (by simp)) OK5.out
      unfold E.tv at hcall
      go_wp2_with (go_at_call 82; refine hcall.mono ?_; rintro e w8 ⟨rfl, hb8⟩)
      have HX8 := Lib.hid (HX7.out.next hb8)
      clear hb8 hcall HX7
      refine hK.out _ _ (HX8.out.sub (by simp) (by simp) (by simp) (by simp)) (fun hS => ?_)
      clear hK K
      refine wpAnyH_take (i := 4) (v := ?_) rfl (by kernel_rfl) (by kernel_rfl) (by kernel_rfl) (fun _ _ _ h => h) (Yields.yieldsIf (Or.inl ⟨by kernel_rfl, ?_⟩)) hS ?_
      rotate_left
      · first | (intro w; go_simp; done) | (intro w; go_simp; with_reducible rfl)
      refine wpAnyH_take (i := 5) (v := ?_) rfl (by kernel_rfl) (by kernel_rfl) (by kernel_rfl) (fun _ _ _ h => h) (Yields.yieldsIf (Or.inl ⟨by kernel_rfl, ?_⟩)) hS ?_
      rotate_left
      · first | (intro w; go_simp; done) | (intro w; go_simp; with_reducible rfl)
      refine wpAnyH_ready (rs := [6]) (by kernel_rfl) (by simp) ?_
      refine AllReadyH.cons rfl (fun K hK => ?_) AllReadyH.nil
      obtain ⟨y0, y1, k0, k1, k2, k3⟩ := HX8.out.facts2 g7 (by simp)
      go_simp
      go_wp2
      have HX9 := Lib.hid ((HX8.out.sub (bs' := [(w.heap.size, 0, .int .i64 z), (w.heap.size, 1, .slice (some ⟨b, off, none⟩) 2 c), (g6, 0, .int .i64 z5), (g6, 1, .slice A5 n5 c5)]) (rs' := [(w.heap.size, 2), (w.heap.size + 1, 2), (g6, 2), (g7, 2)]) (is' := []) (es' := [(fillT l x, E.tv z5 A5 n5 c5)]) (by simp) (by simp) (by simp) (by simp)).set2 g7 (.int .i64 (max (E.high y) (E.low (fillT l x)))) (.slice none 0 0) (by simp) (by simp only [List.mem_cons, List.not_mem_nil, or_false, forall_eq_or_imp, forall_eq]; omega) (by simp))
      clear k0 k1 k2 k3 HX8
      refine hK.out _ _ (HX9.out.sub (by simp) (by simp) (by simp) (by simp)) (fun hS => ?_)
      clear hK K
      generalize (w8.setCell ⟨g7, 0, none⟩ (.int .i64 (max (E.high y) (E.low (fillT l x))))).setCell ⟨g7, 1, none⟩ (.slice none 0 0) = w9 at *
      try go_simp
      refine wpAnyH_done (by kernel_rfl) ?_ _
      have hcall := snode_any z (fillT l x) (.leaf (max (E.high y) (E.low (fillT l x)))) (E.tv z5 A5 n5 c5) (E.tv (max (E.high y) (E.low (fillT l x))) none 0 0) w9 (HX9.out.eget (by simp)) ⟨none, 0, rfl⟩
      unfold E.tv at hcall
      have f := HX9.out.at0
      simp only [List.mem_cons, List.not_mem_nil, or_false, forall_eq_or_imp, forall_eq] at f
      obtain ⟨p0, p1, p2, p3, p4, p5⟩ := f
      go_wp2_with fail
      refine hcall.mono ?_
      rintro e wz ⟨vz, rfl, htz, hbz⟩
      obtain ⟨Az, nz, cz, rfl⟩ := E.InP.form htz
      simp only [E.Tr.N] at htz ⊢
      have HXZ := Lib.hid (HX9.out.next hbz)
      clear hcall hbz p0 p1 p2 p3 p4 p5 HX9
      obtain ⟨y0, y1, k0, k1, k2, k3⟩ := HXZ.out.facts2 (w.heap.size + 1) (by simp)
      have HFIN := Lib.hid (HXZ.out.fin (w.heap.size + 1) (by simp) htz (.int .i64 z) (.slice Az nz cz))
      clear htz HXZ
      unfold E.tv
      go_wp2
      refine bodyPost_ret (v := E.tv z Az nz cz) (by simp [results, Tryz.f80, go_sem, E.tv, k0, k1]) rfl ?_
      refine ⟨_, rfl, ?_, HFIN.out.2⟩
      rw [fill_r hl' hr]
      exact HFIN.out.1
    · have hr' : one r = false := by simpa using hr
      rw [hr']
      clear hr
      go_upto_region 4 with fail
      refine wp_region_held_drew (S := fun W => SX w [(w.heap.size, 0, .int .i64 z), (w.heap.size, 1, .slice (some ⟨b, off, none⟩) 2 c)] [(w.heap.size, 2), (w.heap.size + 1, 2), (g6, 2), (g7, 2)] [] [] W) (by kernel_rfl) ((HX4.out.drew).sub (by simp) (by simp) (by simp) (by simp)) (fun hS => ?_)
      have HXd := Lib.hid (HX4.out.drew)
      clear HX4
      generalize w4.drew = wd at *
      refine wpAnyH_take (i := 0) (v := ?_) rfl (by kernel_rfl) (by kernel_rfl) (by kernel_rfl) (fun _ _ _ h => h) (Or.inl ⟨by kernel_rfl, fun W hW => ?_⟩) hS ?_
      rotate_left
      · obtain ⟨a0, a1, a2, a3, a4, a5, a6, a7, a8, a9, a10, a11⟩ := HO.out W hW.bel
        have f := hW.at0
        simp only [List.mem_cons, List.not_mem_nil, or_false, forall_eq_or_imp, forall_eq] at f
        obtain ⟨p0, p1⟩ := f
        first | (go_simp; done) | (go_simp; with_reducible rfl)
      refine wpAnyH_take (i := 3) (v := ?_) rfl (by kernel_rfl) (by kernel_rfl) (by kernel_rfl) (fun _ _ _ h => h) (Or.inl ⟨by kernel_rfl, fun W hW => ?_⟩) hS ?_
      rotate_left
      · obtain ⟨a0, a1, a2, a3, a4, a5, a6, a7, a8, a9, a10, a11⟩ := HO.out W hW.bel
        have f := hW.at0
        simp only [List.mem_cons, List.not_mem_nil, or_false, forall_eq_or_imp, forall_eq] at f
        obtain ⟨p0, p1⟩ := f
        first | (go_simp; done) | (go_simp; with_reducible rfl)
      refine wpAnyH_ready (rs := [1, 4]) (by kernel_rfl) (by simp) ?_
      refine AllReadyH.cons rfl (fun K hK => ?_) (AllReadyH.cons rfl (fun K hK => ?_) AllReadyH.nil)
      · have f := HXd.out.at0
        simp only [List.mem_cons, List.not_mem_nil, or_false, forall_eq_or_imp, forall_eq] at f
        have q0 := f.1
        have q1 := f.2.1
        have q2 := f.2.2.1
        have q3 := f.2.2.2.1
        have q4 := f.2.2.2.2.1
        have q5 := f.2.2.2.2.2
        clear f
        go_simp
        have hS3 : SX w [(w.heap.size, 0, .int .i64 z), (w.heap.size, 1, .slice (some ⟨b, off, none⟩) 2 c)] [(w.heap.size, 2), (w.heap.size + 1, 2), (g6, 2), (g7, 2)] [] [] wd := HXd.out.sub (by simp) (by simp) (by simp) (by simp)
        clear q0 q1 q2 q3 q4 q5
        refine hK.out _ _ hS3 (fun hS => ?_)
        clear hK K hS3
        refine wpAnyH_ready (rs := [2, 4]) (by kernel_rfl) (by simp) ?_
        refine AllReadyH.cons rfl (fun K hK => ?_) (AllReadyH.cons rfl (fun K hK => ?_) AllReadyH.nil)
        · have hcall := CAL1.out wd x (E.tv oa Aa na ca) HXd.out.bel (E.InP.up EX.out HXd.out.bel) OKX.out
          unfold E.tv at hcall
          go_simp
          go_wp2_with fail
          refine hcall.mono ?_
          rintro e w5 ⟨v5, rfl, ht5, hb5⟩
          obtain ⟨A5, n5, c5, rfl⟩ := E.InP.form ht5
          obtain ⟨z5, hz5⟩ : ∃ z5, (fillT l x).N = z5 := ⟨_, rfl⟩
          rw [hz5] at ht5 ⊢
          clear hz5
          have HX5 := Lib.hid ((HXd.out.next hb5).e ht5)
          clear hcall ht5 hb5 HXd
          unfold E.tv
          refine hK.out _ _ (HX5.out.sub (by simp) (by simp) (by simp) (by simp)) (fun hS => ?_)
          clear hK K
          refine wpAnyH_ready (rs := [4]) (by kernel_rfl) (by simp) ?_
          refine AllReadyH.cons rfl (fun K hK => ?_) AllReadyH.nil
          have f := HX5.out.at0
          simp only [List.mem_cons, List.not_mem_nil, or_false, forall_eq_or_imp, forall_eq] at f
          have q0 := f.1
          have q1 := f.2.1
          have q2 := f.2.2.1
          have q3 := f.2.2.2.1
          have q4 := f.2.2.2.2.1
          have q5 := f.2.2.2.2.2
          clear f
          go_simp
          have hS3 : SX w [(w.heap.size, 0, .int .i64 z), (w.heap.size, 1, .slice (some ⟨b, off, none⟩) 2 c)] [(w.heap.size, 2), (w.heap.size + 1, 2), (g6, 2), (g7, 2)] [] [] w5 := HX5.out.sub (by simp) (by simp) (by simp) (by simp)
          clear q0 q1 q2 q3 q4 q5
          refine hK.out _ _ hS3 (fun hS => ?_)
          clear hK K hS3
          refine wpAnyH_ready (rs := [5]) (by kernel_rfl) (by simp) ?_
          refine AllReadyH.cons rfl (fun K hK => ?_) AllReadyH.nil
          have hcall := CAL2.out w5 y (E.tv ob Ab nb cb) HX5.out.bel (E.InP.up EY.out HX5.out.bel) OKY.out
          unfold E.tv at hcall
          go_simp
          go_wp2_with fail
          refine hcall.mono ?_
          rintro e w6 ⟨v6, rfl, ht6, hb6⟩
          obtain ⟨A6, n6', c6, rfl⟩ := E.InP.form ht6
          obtain ⟨z6, hz6⟩ : ∃ z6, (fillT r y).N = z6 := ⟨_, rfl⟩
          rw [hz6] at ht6 ⊢
          clear hz6
          have HX6 := Lib.hid ((HX5.out.next hb6).e ht6)
          clear hcall ht6 hb6 HX5
          unfold E.tv
          refine hK.out _ _ (HX6.out.sub (by simp) (by simp) (by simp) (by simp)) (fun hS => ?_)
          clear hK K
          refine wpAnyH_ready (rs := [6]) (by kernel_rfl) (by simp) ?_
          refine AllReadyH.cons rfl (fun K hK => ?_) AllReadyH.nil
          obtain ⟨y0, y1, k0, k1, k2, k3⟩ := HX6.out.facts2 g6 (by simp)
          go_simp
          go_wp2
          have HX6s := Lib.hid ((HX6.out.sub (bs' := [(w.heap.size, 0, .int .i64 z), (w.heap.size, 1, .slice (some ⟨b, off, none⟩) 2 c), (g7, 0, .int .i64 ob), (g7, 1, .slice Ab nb cb)]) (rs' := [(w.heap.size, 2), (w.heap.size + 1, 2), (g6, 2), (g7, 2)]) (is' := []) (es' := [(fillT l x, E.tv z5 A5 n5 c5), (fillT r y, E.tv z6 A6 n6' c6)]) (by simp) (by simp) (by simp) (by simp)).set2 g6 (.int .i64 z5) (.slice A5 n5 c5) (by simp) (by simp only [List.mem_cons, List.not_mem_nil, or_false, forall_eq_or_imp, forall_eq]; omega) (by simp))
          clear k0 k1 k2 k3 HX6
          refine hK.out _ _ (HX6s.out.sub (by simp) (by simp) (by simp) (by simp)) (fun hS => ?_)
          clear hK K
          generalize (w6.setCell ⟨g6, 0, none⟩ (.int .i64 z5)).setCell ⟨g6, 1, none⟩ (.slice A5 n5 c5) = w6s at *
          refine wpAnyH_ready (rs := [7]) (by kernel_rfl) (by simp) ?_
          refine AllReadyH.cons rfl (fun K hK => ?_) AllReadyH.nil
          obtain ⟨y0, y1, k0, k1, k2, k3⟩ := HX6s.out.facts2 g7 (by simp)
          go_simp
          go_wp2
          have HX6ss := Lib.hid ((HX6s.out.sub (bs' := [(g6, 0, .int .i64 z5), (g6, 1, .slice A5 n5 c5), (w.heap.size, 0, .int .i64 z), (w.heap.size, 1, .slice (some ⟨b, off, none⟩) 2 c)]) (rs' := [(w.heap.size, 2), (w.heap.size + 1, 2), (g6, 2), (g7, 2)]) (is' := []) (es' := [(fillT l x, E.tv z5 A5 n5 c5), (fillT r y, E.tv z6 A6 n6' c6)]) (by simp) (by simp) (by simp) (by simp)).set2 g7 (.int .i64 z6) (.slice A6 n6' c6) (by simp) (by simp only [List.mem_cons, List.not_mem_nil, or_false, forall_eq_or_imp, forall_eq]; omega) (by simp))
          clear k0 k1 k2 k3 HX6s
          refine hK.out _ _ (HX6ss.out.sub (by simp) (by simp) (by simp) (by simp)) (fun hS => ?_)
          clear hK K
          generalize (w6s.setCell ⟨g7, 0, none⟩ (.int .i64 z6)).setCell ⟨g7, 1, none⟩ (.slice A6 n6' c6) = w6ss at *
          try go_simp
          refine wpAnyH_done (by kernel_rfl) ?_ _
          have hcall := snode_any z (fillT l x) (fillT r y) (E.tv z5 A5 n5 c5) (E.tv z6 A6 n6' c6) w6ss (HX6ss.out.eget (by simp)) (HX6ss.out.eget (by simp))
          unfold E.tv at hcall
          have f := HX6ss.out.at0
          simp only [List.mem_cons, List.not_mem_nil, or_false, forall_eq_or_imp, forall_eq] at f
          obtain ⟨p0, p1, p2, p3, p4, p5⟩ := f
          go_wp2_with fail
          refine hcall.mono ?_
          rintro e wz ⟨vz, rfl, htz, hbz⟩
          obtain ⟨Az, nz, cz, rfl⟩ := E.InP.form htz
          simp only [E.Tr.N] at htz ⊢
          have HXZ := Lib.hid (HX6ss.out.next hbz)
          clear hcall hbz p0 p1 p2 p3 p4 p5 HX6ss
          obtain ⟨y0, y1, k0, k1, k2, k3⟩ := HXZ.out.facts2 (w.heap.size + 1) (by simp)
          have HFIN := Lib.hid (HXZ.out.fin (w.heap.size + 1) (by simp) htz (.int .i64 z) (.slice Az nz cz))
          clear htz HXZ
          unfold E.tv
          go_wp2
          refine bodyPost_ret (v := E.tv z Az nz cz) (by simp [results, Tryz.f80, go_sem, E.tv, k0, k1]) rfl ?_
          refine ⟨_, rfl, ?_, HFIN.out.2⟩
          rw [fill_b hl' hr']
          exact HFIN.out.1
        · have f := HXd.out.at0
          simp only [List.mem_cons, List.not_mem_nil, or_false, forall_eq_or_imp, forall_eq] at f
          have q0 := f.1
          have q1 := f.2.1
          have q2 := f.2.2.1
          have q3 := f.2.2.2.1
          have q4 := f.2.2.2.2.1
          have q5 := f.2.2.2.2.2
          clear f
          go_simp
          have hS3 : SX w [(w.heap.size, 0, .int .i64 z), (w.heap.size, 1, .slice (some ⟨b, off, none⟩) 2 c)] [(w.heap.size, 2), (w.heap.size + 1, 2), (g6, 2), (g7, 2)] [] [] wd := HXd.out.sub (by simp) (by simp) (by simp) (by simp)
          clear q0 q1 q2 q3 q4 q5
          refine hK.out _ _ hS3 (fun hS => ?_)
          clear hK K hS3
          refine wpAnyH_ready (rs := [2]) (by kernel_rfl) (by simp) ?_
          refine AllReadyH.cons rfl (fun K hK => ?_) AllReadyH.nil
          have hcall := CAL1.out wd x (E.tv oa Aa na ca) HXd.out.bel (E.InP.up EX.out HXd.out.bel) OKX.out
          unfold E.tv at hcall
          go_simp
          go_wp2_with fail
          refine hcall.mono ?_
          rintro e w5 ⟨v5, rfl, ht5, hb5⟩
          obtain ⟨A5, n5, c5, rfl⟩ := E.InP.form ht5
          obtain ⟨z5, hz5⟩ : ∃ z5, (fillT l x).N = z5 := ⟨_, rfl⟩
          rw [hz5] at ht5 ⊢
          clear hz5
          have HX5 := Lib.hid ((HXd.out.next hb5).e ht5)
          clear hcall ht5 hb5 HXd
          unfold E.tv
          refine hK.out _ _ (HX5.out.sub (by simp) (by simp) (by simp) (by simp)) (fun hS => ?_)
          clear hK K
          refine wpAnyH_ready (rs := [5]) (by kernel_rfl) (by simp) ?_
          refine AllReadyH.cons rfl (fun K hK => ?_) AllReadyH.nil
          have hcall := CAL2.out w5 y (E.tv ob Ab nb cb) HX5.out.bel (E.InP.up EY.out HX5.out.bel) OKY.out
          unfold E.tv at hcall
          go_simp
          go_wp2_with fail
          refine hcall.mono ?_
          rintro e w6 ⟨v6, rfl, ht6, hb6⟩
          obtain ⟨A6, n6', c6, rfl⟩ := E.InP.form ht6
          obtain ⟨z6, hz6⟩ : ∃ z6, (fillT r y).N = z6 := ⟨_, rfl⟩
          rw [hz6] at ht6 ⊢
          clear hz6
          have HX6 := Lib.hid ((HX5.out.next hb6).e ht6)
          clear hcall ht6 hb6 HX5
          unfold E.tv
          refine hK.out _ _ (HX6.out.sub (by simp) (by simp) (by simp) (by simp)) (fun hS => ?_)
          clear hK K
          refine wpAnyH_ready (rs := [6]) (by kernel_rfl) (by simp) ?_
          refine AllReadyH.cons rfl (fun K hK => ?_) AllReadyH.nil
          obtain ⟨y0, y1, k0, k1, k2, k3⟩ := HX6.out.facts2 g6 (by simp)
          go_simp
          go_wp2
          have HX6s := Lib.hid ((HX6.out.sub (bs' := [(w.heap.size, 0, .int .i64 z), (w.heap.size, 1, .slice (some ⟨b, off, none⟩) 2 c), (g7, 0, .int .i64 ob), (g7, 1, .slice Ab nb cb)]) (rs' := [(w.heap.size, 2), (w.heap.size + 1, 2), (g6, 2), (g7, 2)]) (is' := []) (es' := [(fillT l x, E.tv z5 A5 n5 c5), (fillT r y, E.tv z6 A6 n6' c6)]) (by simp) (by simp) (by simp) (by simp)).set2 g6 (.int .i64 z5) (.slice A5 n5 c5) (by simp) (by simp only [List.mem_cons, List.not_mem_nil, or_false, forall_eq_or_imp, forall_eq]; omega) (by simp))
          clear k0 k1 k2 k3 HX6
          refine hK.out _ _ (HX6s.out.sub (by simp) (by simp) (by simp) (by simp)) (fun hS => ?_)
          clear hK K
          generalize (w6.setCell ⟨g6, 0, none⟩ (.int .i64 z5)).setCell ⟨g6, 1, none⟩ (.slice A5 n5 c5) = w6s at *
          refine wpAnyH_ready (rs := [7]) (by kernel_rfl) (by simp) ?_
          refine AllReadyH.cons rfl (fun K hK => ?_) AllReadyH.nil
          obtain ⟨y0, y1, k0, k1, k2, k3⟩ := HX6s.out.facts2 g7 (by simp)
          go_simp
          go_wp2
          have HX6ss := Lib.hid ((HX6s.out.sub (bs' := [(g6, 0, .int .i64 z5), (g6, 1, .slice A5 n5 c5), (w.heap.size, 0, .int .i64 z), (w.heap.size, 1, .slice (some ⟨b, off, none⟩) 2 c)]) (rs' := [(w.heap.size, 2), (w.heap.size + 1, 2), (g6, 2), (g7, 2)]) (is' := []) (es' := [(fillT l x, E.tv z5 A5 n5 c5), (fillT r y, E.tv z6 A6 n6' c6)]) (by simp) (by simp) (by simp) (by simp)).set2 g7 (.int .i64 z6) (.slice A6 n6' c6) (by simp) (by simp only [List.mem_cons, List.not_mem_nil, or_false, forall_eq_or_imp, forall_eq]; omega) (by simp))
          clear k0 k1 k2 k3 HX6s
          refine hK.out _ _ (HX6ss.out.sub (by simp) (by simp) (by simp) (by simp)) (fun hS => ?_)
          clear hK K
          generalize (w6s.setCell ⟨g7, 0, none⟩ (.int .i64 z6)).setCell ⟨g7, 1, none⟩ (.slice A6 n6' c6) = w6ss at *
          try go_simp
          refine wpAnyH_done (by kernel_rfl) ?_ _
          have hcall := snode_any z (fillT l x) (fillT r y) (E.tv z5 A5 n5 c5) (E.tv z6 A6 n6' c6) w6ss (HX6ss.out.eget (by simp)) (HX6ss.out.eget (by simp))
          unfold E.tv at hcall
          have f := HX6ss.out.at0
          simp only [List.mem_cons, List.not_mem_nil, or_false, forall_eq_or_imp, forall_eq] at f
          obtain ⟨p0, p1, p2, p3, p4, p5⟩ := f
          go_wp2_with fail
          refine hcall.mono ?_
          rintro e wz ⟨vz, rfl, htz, hbz⟩
          obtain ⟨Az, nz, cz, rfl⟩ := E.InP.form htz
          simp only [E.Tr.N] at htz ⊢
          have HXZ := Lib.hid (HX6ss.out.next hbz)
          clear hcall hbz p0 p1 p2 p3 p4 p5 HX6ss
          obtain ⟨y0, y1, k0, k1, k2, k3⟩ := HXZ.out.facts2 (w.heap.size + 1) (by simp)
          have HFIN := Lib.hid (HXZ.out.fin (w.heap.size + 1) (by simp) htz (.int .i64 z) (.slice Az nz cz))
          clear htz HXZ
          unfold E.tv
          go_wp2
          refine bodyPost_ret (v := E.tv z Az nz cz) (by simp [results, Tryz.f80, go_sem, E.tv, k0, k1]) rfl ?_
          refine ⟨_, rfl, ?_, HFIN.out.2⟩
          rw [fill_b hl' hr']
          exact HFIN.out.1
      · have f := HXd.out.at0
        simp only [List.mem_cons, List.not_mem_nil, or_false, forall_eq_or_imp, forall_eq] at f
        have q0 := f.1
        have q1 := f.2.1
        have q2 := f.2.2.1
        have q3 := f.2.2.2.1
        have q4 := f.2.2.2.2.1
        have q5 := f.2.2.2.2.2
        clear f
        go_simp
        have hS3 : SX w [(w.heap.size, 0, .int .i64 z), (w.heap.size, 1, .slice (some ⟨b, off, none⟩) 2 c)] [(w.heap.size, 2), (w.heap.size + 1, 2), (g6, 2), (g7, 2)] [] [] wd := HXd.out.sub (by simp) (by simp) (by simp) (by simp)
        clear q0 q1 q2 q3 q4 q5
        refine hK.out _ _ hS3 (fun hS => ?_)
        clear hK K hS3
        refine wpAnyH_ready (rs := [1]) (by kernel_rfl) (by simp) ?_
        refine AllReadyH.cons rfl (fun K hK => ?_) AllReadyH.nil
        have f := HXd.out.at0
        simp only [List.mem_cons, List.not_mem_nil, or_false, forall_eq_or_imp, forall_eq] at f
        have q0 := f.1
        have q1 := f.2.1
        have q2 := f.2.2.1
        have q3 := f.2.2.2.1
        have q4 := f.2.2.2.2.1
        have q5 := f.2.2.2.2.2
        clear f
        go_simp
        have hS3 : SX w [(w.heap.size, 0, .int .i64 z), (w.heap.size, 1, .slice (some ⟨b, off, none⟩) 2 c)] [(w.heap.size, 2), (w.heap.size + 1, 2), (g6, 2), (g7, 2)] [] [] wd := HXd.out.sub (by simp) (by simp) (by simp) (by simp)
        clear q0 q1 q2 q3 q4 q5
        refine hK.out _ _ hS3 (fun hS => ?_)
        clear hK K hS3
        refine wpAnyH_ready (rs := [2]) (by kernel_rfl) (by simp) ?_
        refine AllReadyH.cons rfl (fun K hK => ?_) AllReadyH.nil
        have hcall := CAL1.out wd x (E.tv oa Aa na ca) HXd.out.bel (E.InP.up EX.out HXd.out.bel) OKX.out
        unfold E.tv at hcall
        go_simp
        go_wp2_with fail
        refine hcall.mono ?_
        rintro e w5 ⟨v5, rfl, ht5, hb5⟩
        obtain ⟨A5, n5, c5, rfl⟩ := E.InP.form ht5
        obtain ⟨z5, hz5⟩ : ∃ z5, (fillT l x).N = z5 := ⟨_, rfl⟩
        rw [hz5] at ht5 ⊢
        clear hz5
        have HX5 := Lib.hid ((HXd.out.next hb5).e ht5)
        clear hcall ht5 hb5 HXd
        unfold E.tv
        refine hK.out _ _ (HX5.out.sub (by simp) (by simp) (by simp) (by simp)) (fun hS => ?_)
        clear hK K
        refine wpAnyH_ready (rs := [5]) (by kernel_rfl) (by simp) ?_
        refine AllReadyH.cons rfl (fun K hK => ?_) AllReadyH.nil
        have hcall := CAL2.out w5 y (E.tv ob Ab nb cb) HX5.out.bel (E.InP.up EY.out HX5.out.bel) OKY.out
        unfold E.tv at hcall
        go_simp
        go_wp2_with fail
        refine hcall.mono ?_
        rintro e w6 ⟨v6, rfl, ht6, hb6⟩
        obtain ⟨A6, n6', c6, rfl⟩ := E.InP.form ht6
        obtain ⟨z6, hz6⟩ : ∃ z6, (fillT r y).N = z6 := ⟨_, rfl⟩
        rw [hz6] at ht6 ⊢
        clear hz6
        have HX6 := Lib.hid ((HX5.out.next hb6).e ht6)
        clear hcall ht6 hb6 HX5
        unfold E.tv
        refine hK.out _ _ (HX6.out.sub (by simp) (by simp) (by simp) (by simp)) (fun hS => ?_)
        clear hK K
        refine wpAnyH_ready (rs := [6]) (by kernel_rfl) (by simp) ?_
        refine AllReadyH.cons rfl (fun K hK => ?_) AllReadyH.nil
        obtain ⟨y0, y1, k0, k1, k2, k3⟩ := HX6.out.facts2 g6 (by simp)
        go_simp
        go_wp2
        have HX6s := Lib.hid ((HX6.out.sub (bs' := [(w.heap.size, 0, .int .i64 z), (w.heap.size, 1, .slice (some ⟨b, off, none⟩) 2 c), (g7, 0, .int .i64 ob), (g7, 1, .slice Ab nb cb)]) (rs' := [(w.heap.size, 2), (w.heap.size + 1, 2), (g6, 2), (g7, 2)]) (is' := []) (es' := [(fillT l x, E.tv z5 A5 n5 c5), (fillT r y, E.tv z6 A6 n6' c6)]) (by simp) (by simp) (by simp) (by simp)).set2 g6 (.int .i64 z5) (.slice A5 n5 c5) (by simp) (by simp only [List.mem_cons, List.not_mem_nil, or_false, forall_eq_or_imp, forall_eq]; omega) (by simp))
        clear k0 k1 k2 k3 HX6
        refine hK.out _ _ (HX6s.out.sub (by simp) (by simp) (by simp) (by simp)) (fun hS => ?_)
        clear hK K
        generalize (w6.setCell ⟨g6, 0, none⟩ (.int .i64 z5)).setCell ⟨g6, 1, none⟩ (.slice A5 n5 c5) = w6s at *
        refine wpAnyH_ready (rs := [7]) (by kernel_rfl) (by simp) ?_
        refine AllReadyH.cons rfl (fun K hK => ?_) AllReadyH.nil
        obtain ⟨y0, y1, k0, k1, k2, k3⟩ := HX6s.out.facts2 g7 (by simp)
        go_simp
        go_wp2
        have HX6ss := Lib.hid ((HX6s.out.sub (bs' := [(g6, 0, .int .i64 z5), (g6, 1, .slice A5 n5 c5), (w.heap.size, 0, .int .i64 z), (w.heap.size, 1, .slice (some ⟨b, off, none⟩) 2 c)]) (rs' := [(w.heap.size, 2), (w.heap.size + 1, 2), (g6, 2), (g7, 2)]) (is' := []) (es' := [(fillT l x, E.tv z5 A5 n5 c5), (fillT r y, E.tv z6 A6 n6' c6)]) (by simp) (by simp) (by simp) (by simp)).set2 g7 (.int .i64 z6) (.slice A6 n6' c6) (by simp) (by simp only [List.mem_cons, List.not_mem_nil, or_false, forall_eq_or_imp, forall_eq]; omega) (by simp))
        clear k0 k1 k2 k3 HX6s
        refine hK.out _ _ (HX6ss.out.sub (by simp) (by simp) (by simp) (by simp)) (fun hS => ?_)
        clear hK K
        generalize (w6s.setCell ⟨g7, 0, none⟩ (.int .i64 z6)).setCell ⟨g7, 1, none⟩ (.slice A6 n6' c6) = w6ss at *
        try go_simp
        refine wpAnyH_done (by kernel_rfl) ?_ _
        have hcall := snode_any z (fillT l x) (fillT r y) (E.tv z5 A5 n5 c5) (E.tv z6 A6 n6' c6) w6ss (HX6ss.out.eget (by simp)) (HX6ss.out.eget (by simp))
        unfold E.tv at hcall
        have f := HX6ss.out.at0
        simp only [List.mem_cons, List.not_mem_nil, or_false, forall_eq_or_imp, forall_eq] at f
        obtain ⟨p0, p1, p2, p3, p4, p5⟩ := f
        go_wp2_with fail
        refine hcall.mono ?_
        rintro e wz ⟨vz, rfl, htz, hbz⟩
        obtain ⟨Az, nz, cz, rfl⟩ := E.InP.form htz
        simp only [E.Tr.N] at htz ⊢
        have HXZ := Lib.hid (HX6ss.out.next hbz)
        clear hcall hbz p0 p1 p2 p3 p4 p5 HX6ss
        obtain ⟨y0, y1, k0, k1, k2, k3⟩ := HXZ.out.facts2 (w.heap.size + 1) (by simp)
        have HFIN := Lib.hid (HXZ.out.fin (w.heap.size + 1) (by simp) htz (.int .i64 z) (.slice Az nz cz))
        clear htz HXZ
        unfold E.tv
        go_wp2
        refine bodyPost_ret (v := E.tv z Az nz cz) (by simp [results, Tryz.f80, go_sem, E.tv, k0, k1]) rfl ?_
        refine ⟨_, rfl, ?_, HFIN.out.2⟩
        rw [fill_b hl' hr']
        exact HFIN.out.1
end Go.Proofs.YtoaglkjpjolacaaGreatDoor.S
