/-
  The reference's parted: a node, case C2.
-/
import Derived.Test.YtoaglkjpjolacaaDoorFIPart0
namespace Go.Proofs.YtoaglkjpjolacaaDoor.I
open Go.RowKit
set_option maxRecDepth 100000 in
set_option maxHeartbeats 12800000 in
theorem parted_C2 (lx rx : Tr) (ihx : ∀ (v : Value) (w : World), InT w w.heap.size (.node lx rx) v → Calls Tryd.prog 53 #[v] w (Two (splitT (.node lx rx)) w)) (w : World) (b off c : Nat) (A1 A2 : Option Addr) (c1 c2 : Nat) (hb : b < w.heap.size) (e1 : w.cell? ⟨b, off, none⟩ = some (.bool false)) (e2 : w.cell? ⟨b, off + 1, none⟩ = some (.slice A1 2 c1)) (g1 : w.cell? ⟨b, off + 2, none⟩ = some (.bool false)) (g2 : w.cell? ⟨b, off + 2 + 1, none⟩ = some (.slice A2 0 c2))
    (e3 : InT w w.heap.size (.node lx rx) (tv false A1 2 c1)) (g3 : InT w w.heap.size (.leaf false) (tv false A2 0 c2)) : Calls Tryd.prog 53 #[tv false (some ⟨b, off, none⟩) 2 c] w (Two (splitT (.node (.node lx rx) (.leaf false))) w) := by
    have HX0 := Lib.hid ((((XS.begin w).boxed (.bool false) (.slice (some ⟨b, off, none⟩) 2 c)).fresh (.bool false) (.slice none 0 0)).fresh (.bool false) (.slice none 0 0))
    have HX1 := Lib.hid (HX0.out.boxed (.bool false) (.slice A1 2 c1))
    have HX2 := Lib.hid (HX1.out.boxed (.bool false) (.slice A2 0 c2))
    have low : ∀ W, Below w.heap.size w W → ∀ i, W.cell? ⟨b, i, none⟩ = w.cell? ⟨b, i, none⟩ := fun W h i => h.cell hb
    have m1 := (low _ HX0.out.bel off).trans e1
    have m2 := (low _ HX0.out.bel (off + 1)).trans e2
    have m3 := (low _ HX1.out.bel (off + 2)).trans g1
    have m4 := (low _ HX1.out.bel (off + 2 + 1)).trans g2
    have E3 := Lib.hid e3
    have G3 := Lib.hid g3
    have m5 : ((((w.alloc (.cells #[.bool false, .slice (some ⟨b, off, none⟩) 2 c] 24)).alloc (.cells #[.bool false, .slice none 0 0] 24)).alloc (.cells #[.bool false, .slice none 0 0] 24)).alloc (.cells #[.bool false, .slice A1 2 c1] 24)).cell? ⟨w.heap.size, 1, none⟩ = some (.slice (some ⟨b, off, none⟩) 2 c) := by
      have f := HX1.out.at0
      simp only [List.nil_append, List.cons_append, List.mem_cons, List.not_mem_nil, or_false, forall_eq_or_imp, forall_eq] at f
      exact f.1.2.1
    simp only [List.nil_append, List.cons_append, World.size_alloc] at HX2
    have HE : Hid (splitT (.node (.node lx rx) (.leaf false)) = (.node (splitT (.node lx rx)).1 (.leaf false), .node (splitT (.node lx rx)).2 (.leaf false))) := by show _ = _; simp [splitT]
    clear HX0 HX1 e1 e2 e3 g1 g2 g3 low
    unfold tv
    go_enter Tryd.func53, Tryd.ntmps53
    have hcall := ihx _ _ (E3.out.up HX2.out.bel)
    unfold tv at hcall
    go_wp2_with fail
    refine hcall.mono ?_
    rintro e w3 ⟨v6, v7, rfl, h6, h7, hb3⟩
    obtain ⟨o6, A6, n6, c6, rfl⟩ := h6.form
    obtain ⟨o7, A7, n7, c7, rfl⟩ := h7.form
    have hx3 := HX2.out.next hb3
    have HX4 := Lib.hid ((hx3.boxed (.bool o6) (.slice A6 n6 c6)).boxed (.bool o7) (.slice A7 n7 c7))
    simp only [List.nil_append, List.cons_append, World.size_alloc] at HX4
    have hb4 : Below w3.heap.size w3 ((w3.alloc (.cells #[.bool o6, .slice A6 n6 c6] 24)).alloc (.cells #[.bool o7, .slice A7 n7 c7] 24)) := ((Below.refl _ w3).alloc (Nat.le_refl _) _).alloc (by simp) _
    have hbd : Below ((w3.alloc (.cells #[.bool o6, .slice A6 n6 c6] 24)).alloc (.cells #[.bool o7, .slice A7 n7 c7] 24)).heap.size ((w3.alloc (.cells #[.bool o6, .slice A6 n6 c6] 24)).alloc (.cells #[.bool o7, .slice A7 n7 c7] 24)) ((w3.alloc (.cells #[.bool o6, .slice A6 n6 c6] 24)).alloc (.cells #[.bool o7, .slice A7 n7 c7] 24)).drew := (Below.refl _ _).drew
    have GA := Lib.hid ((h6.up hb4).up hbd)
    have GB := Lib.hid ((h7.up hb4).up hbd)
    have hXD := HX4.out.drew
    have HSZ : Hid (w.heap.size + 3 ≤ w3.heap.size) := by show _ ≤ _; have := (hx3.box (w.heap.size + 1 + 1) (by simp)).2.1; omega
    clear hx3 hb3 hb4 hbd h6 h7 HX4 HX2 hcall m1 m2 m3 m4 m5 E3 G3
    unfold tv
    go_wp2
    refine wp_region_held_drew (S := fun W => XS w [(w.heap.size, .bool false, .slice (some ⟨b, off, none⟩) 2 c), (w.heap.size + 3, .bool false, .slice A1 2 c1), (w.heap.size + 4, .bool false, .slice A2 0 c2), (w3.heap.size, .bool o6, .slice A6 n6 c6), (w3.heap.size + 1, .bool o7, .slice A7 n7 c7)] [w.heap.size + 1, w.heap.size + 1 + 1] W) (by kernel_rfl) hXD (fun hS => ?_)
    clear hXD
    generalize ((w3.alloc (.cells #[.bool o6, .slice A6 n6 c6] 24)).alloc (.cells #[.bool o7, .slice A7 n7 c7] 24)).drew = wd at hS GA GB ⊢
    refine wpAnyH_take (i := 0) (v := ?_) rfl (by kernel_rfl) (by kernel_rfl) (by kernel_rfl) (fun _ _ _ h => h) (Or.inl ⟨by kernel_rfl, fun W hW => ?_⟩) hS ?_
    rotate_left
    · have f := hW.at0
      simp only [List.mem_cons, List.not_mem_nil, or_false, forall_eq_or_imp, forall_eq] at f
      obtain ⟨⟨p0, q0, _⟩, ⟨p1, q1, _⟩, ⟨p2, q2, _⟩, ⟨p3, q3, _⟩, p4, q4, _⟩ := f
      first | (go_simp; done) | (go_simp; with_reducible rfl)
    refine wpAnyH_take (i := 4) (v := ?_) rfl (by kernel_rfl) (by kernel_rfl) (by kernel_rfl) (fun _ _ _ h => h) (Or.inl ⟨by kernel_rfl, fun W hW => ?_⟩) hS ?_
    rotate_left
    · have f := hW.at0
      simp only [List.mem_cons, List.not_mem_nil, or_false, forall_eq_or_imp, forall_eq] at f
      obtain ⟨⟨p0, q0, _⟩, ⟨p1, q1, _⟩, ⟨p2, q2, _⟩, ⟨p3, q3, _⟩, p4, q4, _⟩ := f
      first | (go_simp; done) | (go_simp; with_reducible rfl)
    refine wpAnyH_ready (rs := [1]) (by kernel_rfl) (by simp) ?_
    refine AllReadyH.cons rfl (fun K hK => ?_) AllReadyH.nil
    · go_simp
      go_wp2_with (go_at_call 89; refine (leaf_any false _).mono ?_; rintro e w101 ⟨rfl, hbq⟩)
      have hS3 := hS.next hbq
      have QGA := Lib.hid (GA.out.up hbq)
      have QGB := Lib.hid (GB.out.up hbq)
      clear GA GB hbq hS
      have GA := Lib.hid QGA.out
      have GB := Lib.hid QGB.out
      clear QGA QGB
      refine hK.out _ _ hS3 (fun hS => ?_)
      clear hK K hS3
      unfold tv
      refine wpAnyH_ready (rs := [2, 5]) (by kernel_rfl) (by simp) ?_
      refine AllReadyH.cons rfl (fun K hK => ?_) (AllReadyH.cons rfl (fun K hK => ?_) AllReadyH.nil)
      · have NN := Lib.hid (pair_new (W := w101) (x := ((splitT (.node lx rx)).1)) (y := (.leaf false)) GA.out (zero_in _ _))
        have hS3 := hS.next (new_below w101 (.cells #[.bool o6, .slice A6 n6 c6, .bool false, .slice none 0 0] 24))
        have QGA := Lib.hid (GA.out.up (new_below w101 (.cells #[.bool o6, .slice A6 n6 c6, .bool false, .slice none 0 0] 24)))
        have QGB := Lib.hid (GB.out.up (new_below w101 (.cells #[.bool o6, .slice A6 n6 c6, .bool false, .slice none 0 0] 24)))
        clear GA GB hS
        have GA := Lib.hid QGA.out
        have GB := Lib.hid QGB.out
        clear QGA QGB
        have HN0 := Lib.hid NN.out
        clear NN
        have HS3 := Lib.hid hS3
        clear hS3
        go_simp
        go_wp2
        refine hK.out _ _ HS3.out (fun hS => ?_)
        clear hK K HS3
        generalize w101.alloc (.cells #[.bool o6, .slice A6 n6 c6, .bool false, .slice none 0 0] 24) = w102 at hS GA GB HN0 ⊢
        refine wpAnyH_take (i := 3) (v := ?_) rfl (by kernel_rfl) (by kernel_rfl) (by kernel_rfl) (fun _ _ _ h => h) (Yields.yieldsIf (Or.inl ⟨by kernel_rfl, ?_⟩)) hS ?_
        rotate_left
        · first | (intro w; go_simp; done) | (intro w; go_simp; with_reducible rfl)
        refine wpAnyH_ready (rs := [5]) (by kernel_rfl) (by simp) ?_
        refine AllReadyH.cons rfl (fun K hK => ?_) AllReadyH.nil
        · go_simp
          go_wp2_with (go_at_call 89; refine (leaf_any false _).mono ?_; rintro e w103 ⟨rfl, hbq⟩)
          have hS3 := hS.next hbq
          have QGA := Lib.hid (GA.out.up hbq)
          have QGB := Lib.hid (GB.out.up hbq)
          have QHN0 := Lib.hid (HN0.out.up hbq)
          clear GA GB HN0 hbq hS
          have GA := Lib.hid QGA.out
          have GB := Lib.hid QGB.out
          have HN0 := Lib.hid QHN0.out
          clear QGA QGB QHN0
          refine hK.out _ _ hS3 (fun hS => ?_)
          clear hK K hS3
          unfold tv
          refine wpAnyH_ready (rs := [6, 8]) (by kernel_rfl) (by simp) ?_
          refine AllReadyH.cons rfl (fun K hK => ?_) (AllReadyH.cons rfl (fun K hK => ?_) AllReadyH.nil)
          · have NN := Lib.hid (pair_new (W := w103) (x := ((splitT (.node lx rx)).2)) (y := (.leaf false)) GB.out (zero_in _ _))
            have hS3 := hS.next (new_below w103 (.cells #[.bool o7, .slice A7 n7 c7, .bool false, .slice none 0 0] 24))
            have QGA := Lib.hid (GA.out.up (new_below w103 (.cells #[.bool o7, .slice A7 n7 c7, .bool false, .slice none 0 0] 24)))
            have QGB := Lib.hid (GB.out.up (new_below w103 (.cells #[.bool o7, .slice A7 n7 c7, .bool false, .slice none 0 0] 24)))
            have QHN0 := Lib.hid (HN0.out.up (new_below w103 (.cells #[.bool o7, .slice A7 n7 c7, .bool false, .slice none 0 0] 24)))
            clear GA GB HN0 hS
            have GA := Lib.hid QGA.out
            have GB := Lib.hid QGB.out
            have HN0 := Lib.hid QHN0.out
            clear QGA QGB QHN0
            have HN1 := Lib.hid NN.out
            clear NN
            have HS3 := Lib.hid hS3
            clear hS3
            go_simp
            go_wp2
            refine hK.out _ _ HS3.out (fun hS => ?_)
            clear hK K HS3
            generalize w103.alloc (.cells #[.bool o7, .slice A7 n7 c7, .bool false, .slice none 0 0] 24) = w104 at hS GA GB HN0 HN1 ⊢
            refine wpAnyH_take (i := 7) (v := ?_) rfl (by kernel_rfl) (by kernel_rfl) (by kernel_rfl) (fun _ _ _ h => h) (Yields.yieldsIf (Or.inl ⟨by kernel_rfl, ?_⟩)) hS ?_
            rotate_left
            · first | (intro w; go_simp; done) | (intro w; go_simp; with_reducible rfl)
            refine wpAnyH_ready (rs := [8]) (by kernel_rfl) (by simp) ?_
            refine AllReadyH.cons rfl (fun K hK => ?_) AllReadyH.nil
            · obtain ⟨y0, y1, ⟨d0, d1⟩, f0, f1⟩ := hS.facts (w.heap.size + 1) (by simp)
              have hq := hS.store (w.heap.size + 1) 0 (.bool false) (by simp) (by have := HSZ.out; simp; omega)
              have hS3 := hq.store (w.heap.size + 1) 1 (.slice (some ⟨w101.heap.size, 0, none⟩) 2 2) (by simp) (by have := HSZ.out; simp; omega)
              have QGA := Lib.hid (hq.tree (hS.tree GA.out (w.heap.size + 1) 0 (.bool false) (by simp)) (w.heap.size + 1) 1 (.slice (some ⟨w101.heap.size, 0, none⟩) 2 2) (by simp))
              have QGB := Lib.hid (hq.tree (hS.tree GB.out (w.heap.size + 1) 0 (.bool false) (by simp)) (w.heap.size + 1) 1 (.slice (some ⟨w101.heap.size, 0, none⟩) 2 2) (by simp))
              have QHN0 := Lib.hid (hq.tree (hS.tree HN0.out (w.heap.size + 1) 0 (.bool false) (by simp)) (w.heap.size + 1) 1 (.slice (some ⟨w101.heap.size, 0, none⟩) 2 2) (by simp))
              have QHN1 := Lib.hid (hq.tree (hS.tree HN1.out (w.heap.size + 1) 0 (.bool false) (by simp)) (w.heap.size + 1) 1 (.slice (some ⟨w101.heap.size, 0, none⟩) 2 2) (by simp))
              have HP := Lib.hid (hS.put (w.heap.size + 1) (.bool false) (.slice (some ⟨w101.heap.size, 0, none⟩) 2 2) (by simp) (by have := HSZ.out; simp; omega))
              simp only [List.cons_append, List.nil_append] at HP
              clear GA GB HN0 HN1 hS hq
              have GA := Lib.hid QGA.out
              have GB := Lib.hid QGB.out
              have HN0 := Lib.hid QHN0.out
              have HN1 := Lib.hid QHN1.out
              clear QGA QGB QHN0 QHN1
              have HS3 := Lib.hid hS3
              clear hS3
              go_simp
              go_wp2
              refine hK.out _ _ HS3.out (fun hS => ?_)
              clear hK K HS3 d0 d1 f0 f1
              generalize (w104.setCell ⟨w.heap.size + 1, 0, none⟩ (.bool false)).setCell ⟨w.heap.size + 1, 1, none⟩ (.slice (some ⟨w101.heap.size, 0, none⟩) 2 2) = w105 at hS GA GB HN0 HN1 HP ⊢
              refine wpAnyH_ready (rs := [9]) (by kernel_rfl) (by simp) ?_
              refine AllReadyH.cons rfl (fun K hK => ?_) AllReadyH.nil
              · obtain ⟨y0, y1, ⟨d0, d1⟩, f0, f1⟩ := hS.facts (w.heap.size + 1 + 1) (by simp)
                have hq := hS.store (w.heap.size + 1 + 1) 0 (.bool false) (by simp) (by have := HSZ.out; simp; omega)
                have hS3 := hq.store (w.heap.size + 1 + 1) 1 (.slice (some ⟨w103.heap.size, 0, none⟩) 2 2) (by simp) (by have := HSZ.out; simp; omega)
                have QGA := Lib.hid (hq.tree (hS.tree GA.out (w.heap.size + 1 + 1) 0 (.bool false) (by simp)) (w.heap.size + 1 + 1) 1 (.slice (some ⟨w103.heap.size, 0, none⟩) 2 2) (by simp))
                have QGB := Lib.hid (hq.tree (hS.tree GB.out (w.heap.size + 1 + 1) 0 (.bool false) (by simp)) (w.heap.size + 1 + 1) 1 (.slice (some ⟨w103.heap.size, 0, none⟩) 2 2) (by simp))
                have QHN0 := Lib.hid (hq.tree (hS.tree HN0.out (w.heap.size + 1 + 1) 0 (.bool false) (by simp)) (w.heap.size + 1 + 1) 1 (.slice (some ⟨w103.heap.size, 0, none⟩) 2 2) (by simp))
                have QHN1 := Lib.hid (hq.tree (hS.tree HN1.out (w.heap.size + 1 + 1) 0 (.bool false) (by simp)) (w.heap.size + 1 + 1) 1 (.slice (some ⟨w103.heap.size, 0, none⟩) 2 2) (by simp))
                have f := HP.out.at0
                simp only [List.mem_cons, List.not_mem_nil, or_false, forall_eq_or_imp, forall_eq] at f
                obtain ⟨_, _, _, _, _, p9, q9, _⟩ := f
                have HFIN := Lib.hid (And.intro QHN0.out (And.intro QHN1.out hS3.bel))
                clear GA GB HN0 HN1 hS hq HP QGA QGB QHN0 QHN1
                have HS3 := Lib.hid hS3
                clear hS3
                go_simp
                go_wp2
                refine hK.out _ _ HS3.out (fun _ => ?_)
                clear hK K HS3
                refine wpAnyH_done (by kernel_rfl) ?_ _
                go_wp2
                refine bodyPost_ret (v := .tuple #[tv false (some ⟨w101.heap.size, 0, none⟩) 2 2, tv false (some ⟨w103.heap.size, 0, none⟩) 2 2]) (by simp [results, Tryd.f53, go_sem, tv, d0, d1, p9, q9]) rfl ?_
                rw [HE.out]
                exact ⟨_, _, rfl, HFIN.out.1, HFIN.out.2.1, HFIN.out.2.2⟩
          · obtain ⟨y0, y1, ⟨d0, d1⟩, f0, f1⟩ := hS.facts (w.heap.size + 1) (by simp)
            have hq := hS.store (w.heap.size + 1) 0 (.bool false) (by simp) (by have := HSZ.out; simp; omega)
            have hS3 := hq.store (w.heap.size + 1) 1 (.slice (some ⟨w101.heap.size, 0, none⟩) 2 2) (by simp) (by have := HSZ.out; simp; omega)
            have QGA := Lib.hid (hq.tree (hS.tree GA.out (w.heap.size + 1) 0 (.bool false) (by simp)) (w.heap.size + 1) 1 (.slice (some ⟨w101.heap.size, 0, none⟩) 2 2) (by simp))
            have QGB := Lib.hid (hq.tree (hS.tree GB.out (w.heap.size + 1) 0 (.bool false) (by simp)) (w.heap.size + 1) 1 (.slice (some ⟨w101.heap.size, 0, none⟩) 2 2) (by simp))
            have QHN0 := Lib.hid (hq.tree (hS.tree HN0.out (w.heap.size + 1) 0 (.bool false) (by simp)) (w.heap.size + 1) 1 (.slice (some ⟨w101.heap.size, 0, none⟩) 2 2) (by simp))
            have HP := Lib.hid (hS.put (w.heap.size + 1) (.bool false) (.slice (some ⟨w101.heap.size, 0, none⟩) 2 2) (by simp) (by have := HSZ.out; simp; omega))
            simp only [List.cons_append, List.nil_append] at HP
            clear GA GB HN0 hS hq
            have GA := Lib.hid QGA.out
            have GB := Lib.hid QGB.out
            have HN0 := Lib.hid QHN0.out
            clear QGA QGB QHN0
            have HS3 := Lib.hid hS3
            clear hS3
            go_simp
            go_wp2
            refine hK.out _ _ HS3.out (fun hS => ?_)
            clear hK K HS3 d0 d1 f0 f1
            generalize (w103.setCell ⟨w.heap.size + 1, 0, none⟩ (.bool false)).setCell ⟨w.heap.size + 1, 1, none⟩ (.slice (some ⟨w101.heap.size, 0, none⟩) 2 2) = w107 at hS GA GB HN0 HP ⊢
            refine wpAnyH_ready (rs := [6]) (by kernel_rfl) (by simp) ?_
            refine AllReadyH.cons rfl (fun K hK => ?_) AllReadyH.nil
            · have NN := Lib.hid (pair_new (W := w107) (x := ((splitT (.node lx rx)).2)) (y := (.leaf false)) GB.out (zero_in _ _))
              have hS3 := hS.next (new_below w107 (.cells #[.bool o7, .slice A7 n7 c7, .bool false, .slice none 0 0] 24))
              have QGA := Lib.hid (GA.out.up (new_below w107 (.cells #[.bool o7, .slice A7 n7 c7, .bool false, .slice none 0 0] 24)))
              have QGB := Lib.hid (GB.out.up (new_below w107 (.cells #[.bool o7, .slice A7 n7 c7, .bool false, .slice none 0 0] 24)))
              have QHN0 := Lib.hid (HN0.out.up (new_below w107 (.cells #[.bool o7, .slice A7 n7 c7, .bool false, .slice none 0 0] 24)))
              have QHP := Lib.hid (HP.out.next (new_below w107 (.cells #[.bool o7, .slice A7 n7 c7, .bool false, .slice none 0 0] 24)))
              clear HP
              have HP := Lib.hid QHP.out
              clear QHP
              clear GA GB HN0 hS
              have GA := Lib.hid QGA.out
              have GB := Lib.hid QGB.out
              have HN0 := Lib.hid QHN0.out
              clear QGA QGB QHN0
              have HN1 := Lib.hid NN.out
              clear NN
              have HS3 := Lib.hid hS3
              clear hS3
              go_simp
              go_wp2
              refine hK.out _ _ HS3.out (fun hS => ?_)
              clear hK K HS3
              generalize w107.alloc (.cells #[.bool o7, .slice A7 n7 c7, .bool false, .slice none 0 0] 24) = w108 at hS GA GB HN0 HN1 HP ⊢
              refine wpAnyH_take (i := 7) (v := ?_) rfl (by kernel_rfl) (by kernel_rfl) (by kernel_rfl) (fun _ _ _ h => h) (Yields.yieldsIf (Or.inl ⟨by kernel_rfl, ?_⟩)) hS ?_
              rotate_left
              · first | (intro w; go_simp; done) | (intro w; go_simp; with_reducible rfl)
              refine wpAnyH_ready (rs := [9]) (by kernel_rfl) (by simp) ?_
              refine AllReadyH.cons rfl (fun K hK => ?_) AllReadyH.nil
              · obtain ⟨y0, y1, ⟨d0, d1⟩, f0, f1⟩ := hS.facts (w.heap.size + 1 + 1) (by simp)
                have hq := hS.store (w.heap.size + 1 + 1) 0 (.bool false) (by simp) (by have := HSZ.out; simp; omega)
                have hS3 := hq.store (w.heap.size + 1 + 1) 1 (.slice (some ⟨w107.heap.size, 0, none⟩) 2 2) (by simp) (by have := HSZ.out; simp; omega)
                have QGA := Lib.hid (hq.tree (hS.tree GA.out (w.heap.size + 1 + 1) 0 (.bool false) (by simp)) (w.heap.size + 1 + 1) 1 (.slice (some ⟨w107.heap.size, 0, none⟩) 2 2) (by simp))
                have QGB := Lib.hid (hq.tree (hS.tree GB.out (w.heap.size + 1 + 1) 0 (.bool false) (by simp)) (w.heap.size + 1 + 1) 1 (.slice (some ⟨w107.heap.size, 0, none⟩) 2 2) (by simp))
                have QHN0 := Lib.hid (hq.tree (hS.tree HN0.out (w.heap.size + 1 + 1) 0 (.bool false) (by simp)) (w.heap.size + 1 + 1) 1 (.slice (some ⟨w107.heap.size, 0, none⟩) 2 2) (by simp))
                have QHN1 := Lib.hid (hq.tree (hS.tree HN1.out (w.heap.size + 1 + 1) 0 (.bool false) (by simp)) (w.heap.size + 1 + 1) 1 (.slice (some ⟨w107.heap.size, 0, none⟩) 2 2) (by simp))
                have f := HP.out.at0
                simp only [List.mem_cons, List.not_mem_nil, or_false, forall_eq_or_imp, forall_eq] at f
                obtain ⟨_, _, _, _, _, p9, q9, _⟩ := f
                have HFIN := Lib.hid (And.intro QHN0.out (And.intro QHN1.out hS3.bel))
                clear GA GB HN0 HN1 hS hq HP QGA QGB QHN0 QHN1
                have HS3 := Lib.hid hS3
                clear hS3
                go_simp
                go_wp2
                refine hK.out _ _ HS3.out (fun _ => ?_)
                clear hK K HS3
                refine wpAnyH_done (by kernel_rfl) ?_ _
                go_wp2
                refine bodyPost_ret (v := .tuple #[tv false (some ⟨w101.heap.size, 0, none⟩) 2 2, tv false (some ⟨w107.heap.size, 0, none⟩) 2 2]) (by simp [results, Tryd.f53, go_sem, tv, d0, d1, p9, q9]) rfl ?_
                rw [HE.out]
                exact ⟨_, _, rfl, HFIN.out.1, HFIN.out.2.1, HFIN.out.2.2⟩
      · go_simp
        go_wp2_with (go_at_call 89; refine (leaf_any false _).mono ?_; rintro e w110 ⟨rfl, hbq⟩)
        have hS3 := hS.next hbq
        have QGA := Lib.hid (GA.out.up hbq)
        have QGB := Lib.hid (GB.out.up hbq)
        clear GA GB hbq hS
        have GA := Lib.hid QGA.out
        have GB := Lib.hid QGB.out
        clear QGA QGB
        refine hK.out _ _ hS3 (fun hS => ?_)
        clear hK K hS3
        unfold tv
        refine wpAnyH_ready (rs := [2, 6]) (by kernel_rfl) (by simp) ?_
        refine AllReadyH.cons rfl (fun K hK => ?_) (AllReadyH.cons rfl (fun K hK => ?_) AllReadyH.nil)
        · have NN := Lib.hid (pair_new (W := w110) (x := ((splitT (.node lx rx)).1)) (y := (.leaf false)) GA.out (zero_in _ _))
          have hS3 := hS.next (new_below w110 (.cells #[.bool o6, .slice A6 n6 c6, .bool false, .slice none 0 0] 24))
          have QGA := Lib.hid (GA.out.up (new_below w110 (.cells #[.bool o6, .slice A6 n6 c6, .bool false, .slice none 0 0] 24)))
          have QGB := Lib.hid (GB.out.up (new_below w110 (.cells #[.bool o6, .slice A6 n6 c6, .bool false, .slice none 0 0] 24)))
          clear GA GB hS
          have GA := Lib.hid QGA.out
          have GB := Lib.hid QGB.out
          clear QGA QGB
          have HN0 := Lib.hid NN.out
          clear NN
          have HS3 := Lib.hid hS3
          clear hS3
          go_simp
          go_wp2
          refine hK.out _ _ HS3.out (fun hS => ?_)
          clear hK K HS3
          generalize w110.alloc (.cells #[.bool o6, .slice A6 n6 c6, .bool false, .slice none 0 0] 24) = w111 at hS GA GB HN0 ⊢
          refine wpAnyH_take (i := 3) (v := ?_) rfl (by kernel_rfl) (by kernel_rfl) (by kernel_rfl) (fun _ _ _ h => h) (Yields.yieldsIf (Or.inl ⟨by kernel_rfl, ?_⟩)) hS ?_
          rotate_left
          · first | (intro w; go_simp; done) | (intro w; go_simp; with_reducible rfl)
          refine wpAnyH_ready (rs := [6, 8]) (by kernel_rfl) (by simp) ?_
          refine AllReadyH.cons rfl (fun K hK => ?_) (AllReadyH.cons rfl (fun K hK => ?_) AllReadyH.nil)
          · have NN := Lib.hid (pair_new (W := w111) (x := ((splitT (.node lx rx)).2)) (y := (.leaf false)) GB.out (zero_in _ _))
            have hS3 := hS.next (new_below w111 (.cells #[.bool o7, .slice A7 n7 c7, .bool false, .slice none 0 0] 24))
            have QGA := Lib.hid (GA.out.up (new_below w111 (.cells #[.bool o7, .slice A7 n7 c7, .bool false, .slice none 0 0] 24)))
            have QGB := Lib.hid (GB.out.up (new_below w111 (.cells #[.bool o7, .slice A7 n7 c7, .bool false, .slice none 0 0] 24)))
            have QHN0 := Lib.hid (HN0.out.up (new_below w111 (.cells #[.bool o7, .slice A7 n7 c7, .bool false, .slice none 0 0] 24)))
            clear GA GB HN0 hS
            have GA := Lib.hid QGA.out
            have GB := Lib.hid QGB.out
            have HN0 := Lib.hid QHN0.out
            clear QGA QGB QHN0
            have HN1 := Lib.hid NN.out
            clear NN
            have HS3 := Lib.hid hS3
            clear hS3
            go_simp
            go_wp2
            refine hK.out _ _ HS3.out (fun hS => ?_)
            clear hK K HS3
            generalize w111.alloc (.cells #[.bool o7, .slice A7 n7 c7, .bool false, .slice none 0 0] 24) = w112 at hS GA GB HN0 HN1 ⊢
            refine wpAnyH_take (i := 7) (v := ?_) rfl (by kernel_rfl) (by kernel_rfl) (by kernel_rfl) (fun _ _ _ h => h) (Yields.yieldsIf (Or.inl ⟨by kernel_rfl, ?_⟩)) hS ?_
            rotate_left
            · first | (intro w; go_simp; done) | (intro w; go_simp; with_reducible rfl)
            refine wpAnyH_ready (rs := [8]) (by kernel_rfl) (by simp) ?_
            refine AllReadyH.cons rfl (fun K hK => ?_) AllReadyH.nil
            · obtain ⟨y0, y1, ⟨d0, d1⟩, f0, f1⟩ := hS.facts (w.heap.size + 1) (by simp)
              have hq := hS.store (w.heap.size + 1) 0 (.bool false) (by simp) (by have := HSZ.out; simp; omega)
              have hS3 := hq.store (w.heap.size + 1) 1 (.slice (some ⟨w110.heap.size, 0, none⟩) 2 2) (by simp) (by have := HSZ.out; simp; omega)
              have QGA := Lib.hid (hq.tree (hS.tree GA.out (w.heap.size + 1) 0 (.bool false) (by simp)) (w.heap.size + 1) 1 (.slice (some ⟨w110.heap.size, 0, none⟩) 2 2) (by simp))
              have QGB := Lib.hid (hq.tree (hS.tree GB.out (w.heap.size + 1) 0 (.bool false) (by simp)) (w.heap.size + 1) 1 (.slice (some ⟨w110.heap.size, 0, none⟩) 2 2) (by simp))
              have QHN0 := Lib.hid (hq.tree (hS.tree HN0.out (w.heap.size + 1) 0 (.bool false) (by simp)) (w.heap.size + 1) 1 (.slice (some ⟨w110.heap.size, 0, none⟩) 2 2) (by simp))
              have QHN1 := Lib.hid (hq.tree (hS.tree HN1.out (w.heap.size + 1) 0 (.bool false) (by simp)) (w.heap.size + 1) 1 (.slice (some ⟨w110.heap.size, 0, none⟩) 2 2) (by simp))
              have HP := Lib.hid (hS.put (w.heap.size + 1) (.bool false) (.slice (some ⟨w110.heap.size, 0, none⟩) 2 2) (by simp) (by have := HSZ.out; simp; omega))
              simp only [List.cons_append, List.nil_append] at HP
              clear GA GB HN0 HN1 hS hq
              have GA := Lib.hid QGA.out
              have GB := Lib.hid QGB.out
              have HN0 := Lib.hid QHN0.out
              have HN1 := Lib.hid QHN1.out
              clear QGA QGB QHN0 QHN1
              have HS3 := Lib.hid hS3
              clear hS3
              go_simp
              go_wp2
              refine hK.out _ _ HS3.out (fun hS => ?_)
              clear hK K HS3 d0 d1 f0 f1
              generalize (w112.setCell ⟨w.heap.size + 1, 0, none⟩ (.bool false)).setCell ⟨w.heap.size + 1, 1, none⟩ (.slice (some ⟨w110.heap.size, 0, none⟩) 2 2) = w113 at hS GA GB HN0 HN1 HP ⊢
              refine wpAnyH_ready (rs := [9]) (by kernel_rfl) (by simp) ?_
              refine AllReadyH.cons rfl (fun K hK => ?_) AllReadyH.nil
              · obtain ⟨y0, y1, ⟨d0, d1⟩, f0, f1⟩ := hS.facts (w.heap.size + 1 + 1) (by simp)
                have hq := hS.store (w.heap.size + 1 + 1) 0 (.bool false) (by simp) (by have := HSZ.out; simp; omega)
                have hS3 := hq.store (w.heap.size + 1 + 1) 1 (.slice (some ⟨w111.heap.size, 0, none⟩) 2 2) (by simp) (by have := HSZ.out; simp; omega)
                have QGA := Lib.hid (hq.tree (hS.tree GA.out (w.heap.size + 1 + 1) 0 (.bool false) (by simp)) (w.heap.size + 1 + 1) 1 (.slice (some ⟨w111.heap.size, 0, none⟩) 2 2) (by simp))
                have QGB := Lib.hid (hq.tree (hS.tree GB.out (w.heap.size + 1 + 1) 0 (.bool false) (by simp)) (w.heap.size + 1 + 1) 1 (.slice (some ⟨w111.heap.size, 0, none⟩) 2 2) (by simp))
                have QHN0 := Lib.hid (hq.tree (hS.tree HN0.out (w.heap.size + 1 + 1) 0 (.bool false) (by simp)) (w.heap.size + 1 + 1) 1 (.slice (some ⟨w111.heap.size, 0, none⟩) 2 2) (by simp))
                have QHN1 := Lib.hid (hq.tree (hS.tree HN1.out (w.heap.size + 1 + 1) 0 (.bool false) (by simp)) (w.heap.size + 1 + 1) 1 (.slice (some ⟨w111.heap.size, 0, none⟩) 2 2) (by simp))
                have f := HP.out.at0
                simp only [List.mem_cons, List.not_mem_nil, or_false, forall_eq_or_imp, forall_eq] at f
                obtain ⟨_, _, _, _, _, p9, q9, _⟩ := f
                have HFIN := Lib.hid (And.intro QHN0.out (And.intro QHN1.out hS3.bel))
                clear GA GB HN0 HN1 hS hq HP QGA QGB QHN0 QHN1
                have HS3 := Lib.hid hS3
                clear hS3
                go_simp
                go_wp2
                refine hK.out _ _ HS3.out (fun _ => ?_)
                clear hK K HS3
                refine wpAnyH_done (by kernel_rfl) ?_ _
                go_wp2
                refine bodyPost_ret (v := .tuple #[tv false (some ⟨w110.heap.size, 0, none⟩) 2 2, tv false (some ⟨w111.heap.size, 0, none⟩) 2 2]) (by simp [results, Tryd.f53, go_sem, tv, d0, d1, p9, q9]) rfl ?_
                rw [HE.out]
                exact ⟨_, _, rfl, HFIN.out.1, HFIN.out.2.1, HFIN.out.2.2⟩
          · obtain ⟨y0, y1, ⟨d0, d1⟩, f0, f1⟩ := hS.facts (w.heap.size + 1) (by simp)
            have hq := hS.store (w.heap.size + 1) 0 (.bool false) (by simp) (by have := HSZ.out; simp; omega)
            have hS3 := hq.store (w.heap.size + 1) 1 (.slice (some ⟨w110.heap.size, 0, none⟩) 2 2) (by simp) (by have := HSZ.out; simp; omega)
            have QGA := Lib.hid (hq.tree (hS.tree GA.out (w.heap.size + 1) 0 (.bool false) (by simp)) (w.heap.size + 1) 1 (.slice (some ⟨w110.heap.size, 0, none⟩) 2 2) (by simp))
            have QGB := Lib.hid (hq.tree (hS.tree GB.out (w.heap.size + 1) 0 (.bool false) (by simp)) (w.heap.size + 1) 1 (.slice (some ⟨w110.heap.size, 0, none⟩) 2 2) (by simp))
            have QHN0 := Lib.hid (hq.tree (hS.tree HN0.out (w.heap.size + 1) 0 (.bool false) (by simp)) (w.heap.size + 1) 1 (.slice (some ⟨w110.heap.size, 0, none⟩) 2 2) (by simp))
            have HP := Lib.hid (hS.put (w.heap.size + 1) (.bool false) (.slice (some ⟨w110.heap.size, 0, none⟩) 2 2) (by simp) (by have := HSZ.out; simp; omega))
            simp only [List.cons_append, List.nil_append] at HP
            clear GA GB HN0 hS hq
            have GA := Lib.hid QGA.out
            have GB := Lib.hid QGB.out
            have HN0 := Lib.hid QHN0.out
            clear QGA QGB QHN0
            have HS3 := Lib.hid hS3
            clear hS3
            go_simp
            go_wp2
            refine hK.out _ _ HS3.out (fun hS => ?_)
            clear hK K HS3 d0 d1 f0 f1
            generalize (w111.setCell ⟨w.heap.size + 1, 0, none⟩ (.bool false)).setCell ⟨w.heap.size + 1, 1, none⟩ (.slice (some ⟨w110.heap.size, 0, none⟩) 2 2) = w115 at hS GA GB HN0 HP ⊢
            refine wpAnyH_ready (rs := [6]) (by kernel_rfl) (by simp) ?_
            refine AllReadyH.cons rfl (fun K hK => ?_) AllReadyH.nil
            · have NN := Lib.hid (pair_new (W := w115) (x := ((splitT (.node lx rx)).2)) (y := (.leaf false)) GB.out (zero_in _ _))
              have hS3 := hS.next (new_below w115 (.cells #[.bool o7, .slice A7 n7 c7, .bool false, .slice none 0 0] 24))
              have QGA := Lib.hid (GA.out.up (new_below w115 (.cells #[.bool o7, .slice A7 n7 c7, .bool false, .slice none 0 0] 24)))
              have QGB := Lib.hid (GB.out.up (new_below w115 (.cells #[.bool o7, .slice A7 n7 c7, .bool false, .slice none 0 0] 24)))
              have QHN0 := Lib.hid (HN0.out.up (new_below w115 (.cells #[.bool o7, .slice A7 n7 c7, .bool false, .slice none 0 0] 24)))
              have QHP := Lib.hid (HP.out.next (new_below w115 (.cells #[.bool o7, .slice A7 n7 c7, .bool false, .slice none 0 0] 24)))
              clear HP
              have HP := Lib.hid QHP.out
              clear QHP
              clear GA GB HN0 hS
              have GA := Lib.hid QGA.out
              have GB := Lib.hid QGB.out
              have HN0 := Lib.hid QHN0.out
              clear QGA QGB QHN0
              have HN1 := Lib.hid NN.out
              clear NN
              have HS3 := Lib.hid hS3
              clear hS3
              go_simp
              go_wp2
              refine hK.out _ _ HS3.out (fun hS => ?_)
              clear hK K HS3
              generalize w115.alloc (.cells #[.bool o7, .slice A7 n7 c7, .bool false, .slice none 0 0] 24) = w116 at hS GA GB HN0 HN1 HP ⊢
              refine wpAnyH_take (i := 7) (v := ?_) rfl (by kernel_rfl) (by kernel_rfl) (by kernel_rfl) (fun _ _ _ h => h) (Yields.yieldsIf (Or.inl ⟨by kernel_rfl, ?_⟩)) hS ?_
              rotate_left
              · first | (intro w; go_simp; done) | (intro w; go_simp; with_reducible rfl)
              refine wpAnyH_ready (rs := [9]) (by kernel_rfl) (by simp) ?_
              refine AllReadyH.cons rfl (fun K hK => ?_) AllReadyH.nil
              · obtain ⟨y0, y1, ⟨d0, d1⟩, f0, f1⟩ := hS.facts (w.heap.size + 1 + 1) (by simp)
                have hq := hS.store (w.heap.size + 1 + 1) 0 (.bool false) (by simp) (by have := HSZ.out; simp; omega)
                have hS3 := hq.store (w.heap.size + 1 + 1) 1 (.slice (some ⟨w115.heap.size, 0, none⟩) 2 2) (by simp) (by have := HSZ.out; simp; omega)
                have QGA := Lib.hid (hq.tree (hS.tree GA.out (w.heap.size + 1 + 1) 0 (.bool false) (by simp)) (w.heap.size + 1 + 1) 1 (.slice (some ⟨w115.heap.size, 0, none⟩) 2 2) (by simp))
                have QGB := Lib.hid (hq.tree (hS.tree GB.out (w.heap.size + 1 + 1) 0 (.bool false) (by simp)) (w.heap.size + 1 + 1) 1 (.slice (some ⟨w115.heap.size, 0, none⟩) 2 2) (by simp))
                have QHN0 := Lib.hid (hq.tree (hS.tree HN0.out (w.heap.size + 1 + 1) 0 (.bool false) (by simp)) (w.heap.size + 1 + 1) 1 (.slice (some ⟨w115.heap.size, 0, none⟩) 2 2) (by simp))
                have QHN1 := Lib.hid (hq.tree (hS.tree HN1.out (w.heap.size + 1 + 1) 0 (.bool false) (by simp)) (w.heap.size + 1 + 1) 1 (.slice (some ⟨w115.heap.size, 0, none⟩) 2 2) (by simp))
                have f := HP.out.at0
                simp only [List.mem_cons, List.not_mem_nil, or_false, forall_eq_or_imp, forall_eq] at f
                obtain ⟨_, _, _, _, _, p9, q9, _⟩ := f
                have HFIN := Lib.hid (And.intro QHN0.out (And.intro QHN1.out hS3.bel))
                clear GA GB HN0 HN1 hS hq HP QGA QGB QHN0 QHN1
                have HS3 := Lib.hid hS3
                clear hS3
                go_simp
                go_wp2
                refine hK.out _ _ HS3.out (fun _ => ?_)
                clear hK K HS3
                refine wpAnyH_done (by kernel_rfl) ?_ _
                go_wp2
                refine bodyPost_ret (v := .tuple #[tv false (some ⟨w110.heap.size, 0, none⟩) 2 2, tv false (some ⟨w115.heap.size, 0, none⟩) 2 2]) (by simp [results, Tryd.f53, go_sem, tv, d0, d1, p9, q9]) rfl ?_
                rw [HE.out]
                exact ⟨_, _, rfl, HFIN.out.1, HFIN.out.2.1, HFIN.out.2.2⟩
        · have NN := Lib.hid (pair_new (W := w110) (x := ((splitT (.node lx rx)).2)) (y := (.leaf false)) GB.out (zero_in _ _))
          have hS3 := hS.next (new_below w110 (.cells #[.bool o7, .slice A7 n7 c7, .bool false, .slice none 0 0] 24))
          have QGA := Lib.hid (GA.out.up (new_below w110 (.cells #[.bool o7, .slice A7 n7 c7, .bool false, .slice none 0 0] 24)))
          have QGB := Lib.hid (GB.out.up (new_below w110 (.cells #[.bool o7, .slice A7 n7 c7, .bool false, .slice none 0 0] 24)))
          clear GA GB hS
          have GA := Lib.hid QGA.out
          have GB := Lib.hid QGB.out
          clear QGA QGB
          have HN1 := Lib.hid NN.out
          clear NN
          have HS3 := Lib.hid hS3
          clear hS3
          go_simp
          go_wp2
          refine hK.out _ _ HS3.out (fun hS => ?_)
          clear hK K HS3
          generalize w110.alloc (.cells #[.bool o7, .slice A7 n7 c7, .bool false, .slice none 0 0] 24) = w118 at hS GA GB HN1 ⊢
          refine wpAnyH_take (i := 7) (v := ?_) rfl (by kernel_rfl) (by kernel_rfl) (by kernel_rfl) (fun _ _ _ h => h) (Yields.yieldsIf (Or.inl ⟨by kernel_rfl, ?_⟩)) hS ?_
          rotate_left
          · first | (intro w; go_simp; done) | (intro w; go_simp; with_reducible rfl)
          refine wpAnyH_ready (rs := [2]) (by kernel_rfl) (by simp) ?_
          refine AllReadyH.cons rfl (fun K hK => ?_) AllReadyH.nil
          · have NN := Lib.hid (pair_new (W := w118) (x := ((splitT (.node lx rx)).1)) (y := (.leaf false)) GA.out (zero_in _ _))
            have hS3 := hS.next (new_below w118 (.cells #[.bool o6, .slice A6 n6 c6, .bool false, .slice none 0 0] 24))
            have QGA := Lib.hid (GA.out.up (new_below w118 (.cells #[.bool o6, .slice A6 n6 c6, .bool false, .slice none 0 0] 24)))
            have QGB := Lib.hid (GB.out.up (new_below w118 (.cells #[.bool o6, .slice A6 n6 c6, .bool false, .slice none 0 0] 24)))
            have QHN1 := Lib.hid (HN1.out.up (new_below w118 (.cells #[.bool o6, .slice A6 n6 c6, .bool false, .slice none 0 0] 24)))
            clear GA GB HN1 hS
            have GA := Lib.hid QGA.out
            have GB := Lib.hid QGB.out
            have HN1 := Lib.hid QHN1.out
            clear QGA QGB QHN1
            have HN0 := Lib.hid NN.out
            clear NN
            have HS3 := Lib.hid hS3
            clear hS3
            go_simp
            go_wp2
            refine hK.out _ _ HS3.out (fun hS => ?_)
            clear hK K HS3
            generalize w118.alloc (.cells #[.bool o6, .slice A6 n6 c6, .bool false, .slice none 0 0] 24) = w119 at hS GA GB HN1 HN0 ⊢
            refine wpAnyH_take (i := 3) (v := ?_) rfl (by kernel_rfl) (by kernel_rfl) (by kernel_rfl) (fun _ _ _ h => h) (Yields.yieldsIf (Or.inl ⟨by kernel_rfl, ?_⟩)) hS ?_
            rotate_left
            · first | (intro w; go_simp; done) | (intro w; go_simp; with_reducible rfl)
            refine wpAnyH_ready (rs := [8]) (by kernel_rfl) (by simp) ?_
            refine AllReadyH.cons rfl (fun K hK => ?_) AllReadyH.nil
            · obtain ⟨y0, y1, ⟨d0, d1⟩, f0, f1⟩ := hS.facts (w.heap.size + 1) (by simp)
              have hq := hS.store (w.heap.size + 1) 0 (.bool false) (by simp) (by have := HSZ.out; simp; omega)
              have hS3 := hq.store (w.heap.size + 1) 1 (.slice (some ⟨w118.heap.size, 0, none⟩) 2 2) (by simp) (by have := HSZ.out; simp; omega)
              have QGA := Lib.hid (hq.tree (hS.tree GA.out (w.heap.size + 1) 0 (.bool false) (by simp)) (w.heap.size + 1) 1 (.slice (some ⟨w118.heap.size, 0, none⟩) 2 2) (by simp))
              have QGB := Lib.hid (hq.tree (hS.tree GB.out (w.heap.size + 1) 0 (.bool false) (by simp)) (w.heap.size + 1) 1 (.slice (some ⟨w118.heap.size, 0, none⟩) 2 2) (by simp))
              have QHN1 := Lib.hid (hq.tree (hS.tree HN1.out (w.heap.size + 1) 0 (.bool false) (by simp)) (w.heap.size + 1) 1 (.slice (some ⟨w118.heap.size, 0, none⟩) 2 2) (by simp))
              have QHN0 := Lib.hid (hq.tree (hS.tree HN0.out (w.heap.size + 1) 0 (.bool false) (by simp)) (w.heap.size + 1) 1 (.slice (some ⟨w118.heap.size, 0, none⟩) 2 2) (by simp))
              have HP := Lib.hid (hS.put (w.heap.size + 1) (.bool false) (.slice (some ⟨w118.heap.size, 0, none⟩) 2 2) (by simp) (by have := HSZ.out; simp; omega))
              simp only [List.cons_append, List.nil_append] at HP
              clear GA GB HN1 HN0 hS hq
              have GA := Lib.hid QGA.out
              have GB := Lib.hid QGB.out
              have HN1 := Lib.hid QHN1.out
              have HN0 := Lib.hid QHN0.out
              clear QGA QGB QHN1 QHN0
              have HS3 := Lib.hid hS3
              clear hS3
              go_simp
              go_wp2
              refine hK.out _ _ HS3.out (fun hS => ?_)
              clear hK K HS3 d0 d1 f0 f1
              generalize (w119.setCell ⟨w.heap.size + 1, 0, none⟩ (.bool false)).setCell ⟨w.heap.size + 1, 1, none⟩ (.slice (some ⟨w118.heap.size, 0, none⟩) 2 2) = w120 at hS GA GB HN1 HN0 HP ⊢
              refine wpAnyH_ready (rs := [9]) (by kernel_rfl) (by simp) ?_
              refine AllReadyH.cons rfl (fun K hK => ?_) AllReadyH.nil
              · obtain ⟨y0, y1, ⟨d0, d1⟩, f0, f1⟩ := hS.facts (w.heap.size + 1 + 1) (by simp)
                have hq := hS.store (w.heap.size + 1 + 1) 0 (.bool false) (by simp) (by have := HSZ.out; simp; omega)
                have hS3 := hq.store (w.heap.size + 1 + 1) 1 (.slice (some ⟨w110.heap.size, 0, none⟩) 2 2) (by simp) (by have := HSZ.out; simp; omega)
                have QGA := Lib.hid (hq.tree (hS.tree GA.out (w.heap.size + 1 + 1) 0 (.bool false) (by simp)) (w.heap.size + 1 + 1) 1 (.slice (some ⟨w110.heap.size, 0, none⟩) 2 2) (by simp))
                have QGB := Lib.hid (hq.tree (hS.tree GB.out (w.heap.size + 1 + 1) 0 (.bool false) (by simp)) (w.heap.size + 1 + 1) 1 (.slice (some ⟨w110.heap.size, 0, none⟩) 2 2) (by simp))
                have QHN1 := Lib.hid (hq.tree (hS.tree HN1.out (w.heap.size + 1 + 1) 0 (.bool false) (by simp)) (w.heap.size + 1 + 1) 1 (.slice (some ⟨w110.heap.size, 0, none⟩) 2 2) (by simp))
                have QHN0 := Lib.hid (hq.tree (hS.tree HN0.out (w.heap.size + 1 + 1) 0 (.bool false) (by simp)) (w.heap.size + 1 + 1) 1 (.slice (some ⟨w110.heap.size, 0, none⟩) 2 2) (by simp))
                have f := HP.out.at0
                simp only [List.mem_cons, List.not_mem_nil, or_false, forall_eq_or_imp, forall_eq] at f
                obtain ⟨_, _, _, _, _, p9, q9, _⟩ := f
                have HFIN := Lib.hid (And.intro QHN0.out (And.intro QHN1.out hS3.bel))
                clear GA GB HN1 HN0 hS hq HP QGA QGB QHN1 QHN0
                have HS3 := Lib.hid hS3
                clear hS3
                go_simp
                go_wp2
                refine hK.out _ _ HS3.out (fun _ => ?_)
                clear hK K HS3
                refine wpAnyH_done (by kernel_rfl) ?_ _
                go_wp2
                refine bodyPost_ret (v := .tuple #[tv false (some ⟨w118.heap.size, 0, none⟩) 2 2, tv false (some ⟨w110.heap.size, 0, none⟩) 2 2]) (by simp [results, Tryd.f53, go_sem, tv, d0, d1, p9, q9]) rfl ?_
                rw [HE.out]
                exact ⟨_, _, rfl, HFIN.out.1, HFIN.out.2.1, HFIN.out.2.2⟩
end Go.Proofs.YtoaglkjpjolacaaDoor.I
