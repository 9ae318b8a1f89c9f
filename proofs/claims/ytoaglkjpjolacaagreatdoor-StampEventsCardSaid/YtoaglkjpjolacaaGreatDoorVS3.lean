/-
  Stamps: Event.
-/
import Derived.Test.YtoaglkjpjolacaaGreatDoorVSSt2
import Derived.Test.YtoaglkjpjolacaaGreatDoorVSGrow4
import Derived.Test.YtoaglkjpjolacaaGreatDoorVE6
namespace Go.Proofs.YtoaglkjpjolacaaGreatDoor.S
open Go.RowKit
/-- A stamp's tree behind an event, its normal form left out. -/
def afterT (i : I.Tr) (x : E.Tr) : E.Tr := if (E.leqT (fillT i x) x 0 0 && E.leqT x (fillT i x) 0 0) = true then (growT i x).1 else fillT i x
def eventR : Option I.Tr → Option E.Tr → (I.Tr × E.Tr) × Int
  | some i, some x => if zero i.norm = true then (zeroS, 60) else if E.okT (afterT i.norm x.norm) = true then ((i.norm, (afterT i.norm x.norm).norm), 0) else (zeroS, 50)
  | _, _ => (zeroS, 2)
theorem event_none {S : Option I.Tr} {T : Option E.Tr} (h : (S.isSome && T.isSome) = false) : eventR S T = (zeroS, 2) := by cases S <;> cases T <;> simp [eventR] at h ⊢
set_option maxRecDepth 100000 in
set_option maxHeartbeats 12800000 in
theorem event_any {w : World} {S : Option I.Tr} {T : Option E.Tr} {v : Value} (h : SArg w S T v) : Calls Tryz.prog 13 #[v] w (AnsS (eventR S T) w) := by
  have HH := Lib.hid h
  obtain ⟨o, A, n, c, z, A', n', c', rfl, h1, h2⟩ := h
  have HX0 := Lib.hid (((SX.begin w).four o (.slice A n c) z (.slice A' n' c') 29).four false (.slice none 0 0) 0 (.slice none 0 0) 29)
  simp only [List.nil_append, List.cons_append, World.size_alloc] at HX0
  have H1 := Lib.hid h1
  have H2 := Lib.hid h2
  have hc := right_any (HH.out.up HX0.out.bel)
  obtain ⟨a, ha⟩ : ∃ a, (S.isSome && T.isSome) = a := ⟨_, rfl⟩
  rw [ha] at hc
  clear h1 h2
  unfold sv at hc ⊢
  go_enter Tryz.func13, Tryz.ntmps13
  go_wp2_with fail
  refine hc.mono ?_
  rintro e w1 ⟨rfl, hb1⟩
  have HX1 := Lib.hid (HX0.out.next hb1)
  clear hc hb1 HX0
  cases a with
  | false =>
    have HPN := Lib.hid (event_none ha)
    clear ha
    obtain ⟨y0, y1, y2, y3, ⟨q0, q1, q2, q3⟩, r0, r1, r2, r3⟩ := HX1.out.facts4 (w.heap.size + 1) (by simp)
    have HX9 := Lib.hid ((HX1.out.sub0 (bs' := []) (rs' := [(w.heap.size + 1, 4)]) (by simp) (by simp)).set4 (w.heap.size + 1) false (.slice none 0 0) 0 (.slice none 0 0) (by simp) (by simp) (by simp))
    clear HX1
    go_wp2
    have f := HX9.out.at0
    simp only [List.mem_cons, List.not_mem_nil, or_false, forall_eq_or_imp, forall_eq] at f
    obtain ⟨f0, f1, f2, f3⟩ := f
    refine bodyPost_ret (v := .tuple #[sv false none 0 0 0 none 0 0, .int .i64 2]) (by simp [results, Tryz.f13, go_sem, sv, f0, f1, f2, f3]) rfl ?_
    rw [HPN.out]
    exact ⟨_, rfl, SIn.zero _, HX9.out.bel⟩
  | true =>
    obtain ⟨i, x, rfl, rfl⟩ := both_some ha
    have hoki := H1.out.inT.2
    have hokx := H2.out.inT.2
    have hdn : i.norm.depth ≤ 1000000 := by have := (I.fit_eq (I.fit_norm (I.fit_of hoki.1 hoki.2))).2.1; omega
    have hnz : Nz i.norm := nz_norm _ (I.norm_norm i)
    have hoxn : E.okT x.norm = true := E.okT_norm hokx
    have hon : okN x.norm := ((E.okT_iff _).1 hoxn).2.1
    have hof : E.okT (fillT i.norm x.norm) = true := fill_ok _ hoxn
    clear ha hoki hokx
    have f := HX1.out.at0
    simp only [List.mem_cons, List.not_mem_nil, or_false, forall_eq_or_imp, forall_eq] at f
    obtain ⟨p0, p1, p2, p3, p4, p5, p6, p7⟩ := f
    have hc := I.norm_arg (H1.out.up HX1.out.bel)
    unfold I.tv at hc
    have HDN := Lib.hid hdn
    have HNZ := Lib.hid hnz
    have HOX := Lib.hid hoxn
    have HON := Lib.hid hon
    have HOF := Lib.hid hof
    clear hdn hnz hoxn hon hof
    go_wp2_with fail
    refine hc.mono ?_
    rintro e w2 ⟨v1, rfl, ht1, hb2⟩
    obtain ⟨o1, A1, n1, c1, rfl⟩ := ht1.form
    simp only [I.normR] at ht1 ⊢
    have sz2 : w.heap.size + 2 ≤ w2.heap.size := by
      have h1 := hb2.size
      have h2 := (HX1.out.box (w.heap.size + 1, 4) (by simp)).1.lt
      omega
    have HX2 := Lib.hid (((HX1.out.next hb2).i ht1).two (.bool o1) (.slice A1 n1 c1) 24)
    simp only [List.nil_append, List.cons_append] at HX2
    clear hc hb2 ht1 HX1
    clear p0 p1 p2 p3 p4 p5 p6 p7
    unfold I.tv
    go_upto_region 4 with fail
    generalize w2.alloc (.cells #[.bool o1, .slice A1 n1 c1] 24) = w3 at *
    have f := HX2.out.at0
    simp only [List.mem_cons, List.not_mem_nil, or_false, forall_eq_or_imp, forall_eq] at f
    obtain ⟨p0, p1, p2, p3, p4, p5, p6, p7, p8, p9⟩ := f
    have hc := szero_any i.norm (I.tv o1 A1 n1 c1) w3 (HX2.out.iget (by simp))
    unfold I.tv at hc
    obtain ⟨zz, hzz⟩ : ∃ zz, zero i.norm = zz := ⟨_, rfl⟩
    rw [hzz] at hc
    go_wp2_with fail
    refine hc.mono ?_
    rintro e w4 ⟨rfl, hb4⟩
    have sz4 : w2.heap.size + 1 ≤ w4.heap.size := by
      have h1 := hb4.size
      have h2 := (HX2.out.box (w2.heap.size, 2) (by simp)).1.lt
      omega
    have HX4 := Lib.hid (HX2.out.next hb4)
    clear hc hb4 HX2
    clear p0 p1 p2 p3 p4 p5 p6 p7 p8 p9
    cases zz with
    | true =>
      have HPN : Hid (eventR (some i) (some x) = (zeroS, 60)) := Lib.hid (by simp [eventR, hzz])
      clear hzz
      obtain ⟨y0, y1, y2, y3, ⟨q0, q1, q2, q3⟩, r0, r1, r2, r3⟩ := HX4.out.facts4 (w.heap.size + 1) (by simp)
      have HX9 := Lib.hid ((HX4.out.sub0 (bs' := []) (rs' := [(w.heap.size + 1, 4)]) (by simp) (by simp)).set4 (w.heap.size + 1) false (.slice none 0 0) 0 (.slice none 0 0) (by simp) (by simp) (by simp))
      clear HX4
      go_wp2
      have f := HX9.out.at0
      simp only [List.mem_cons, List.not_mem_nil, or_false, forall_eq_or_imp, forall_eq] at f
      obtain ⟨f0, f1, f2, f3⟩ := f
      refine bodyPost_ret (v := .tuple #[sv false none 0 0 0 none 0 0, .int .i64 60]) (by simp [results, Tryz.f13, go_sem, sv, f0, f1, f2, f3]) rfl ?_
      rw [HPN.out]
      exact ⟨_, rfl, SIn.zero _, HX9.out.bel⟩
    | false =>
      have f := HX4.out.at0
      simp only [List.mem_cons, List.not_mem_nil, or_false, forall_eq_or_imp, forall_eq] at f
      obtain ⟨p0, p1, p2, p3, p4, p5, p6, p7, p8, p9⟩ := f
      have HZZ := Lib.hid hzz
      clear hzz
      have hc := E.norm_arg (H2.out.up HX4.out.bel)
      unfold E.tv at hc
      go_wp2_with fail
      refine hc.mono ?_
      rintro e w5 ⟨v3, rfl, ht3, hb3⟩
      obtain ⟨A3, n3, c3, rfl⟩ := E.InP.form ht3
      simp only [E.normR] at ht3 ⊢
      have ht3' := E.InP.old ht3
      obtain ⟨z3, hz3⟩ : ∃ z3, x.norm.N = z3 := ⟨_, rfl⟩
      rw [hz3] at ht3' ⊢
      clear hz3
      have sz5 : w4.heap.size ≤ w5.heap.size := hb3.size
      have HX5 := Lib.hid (((HX4.out.next hb3).e ht3').two (.int .i64 z3) (.slice A3 n3 c3) 27)
      simp only [List.nil_append, List.cons_append] at HX5
      clear hc hb3 ht3 ht3' HX4
      clear p0 p1 p2 p3 p4 p5 p6 p7 p8 p9
      unfold E.tv
      go_upto_region 7 with fail
      have sz6 : w5.heap.size + 1 ≤ (w5.alloc (.cells #[.int .i64 z3, .slice A3 n3 c3] 27)).heap.size := by simp
      generalize w5.alloc (.cells #[.int .i64 z3, .slice A3 n3 c3] 27) = w6 at *
      go_cut [8] (fun s8 wx => ∃ (g8 : Nat) (z7 : Int) (A7 : Option Addr) (n7 c7 : Nat), s8 = .pointer (some ⟨g8, 0, none⟩) ∧ w5.heap.size + 1 ≤ g8 ∧ SX w [(w2.heap.size, 0, .bool o1), (w2.heap.size, 1, .slice A1 n1 c1), (w5.heap.size, 0, .int .i64 z3), (w5.heap.size, 1, .slice A3 n3 c3), (g8, 0, .int .i64 z7), (g8, 1, .slice A7 n7 c7)] [(w.heap.size + 1, 4), (g8, 2)] [(i.norm, I.tv o1 A1 n1 c1)] [(fillT i.norm x.norm, E.tv z7 A7 n7 c7), (x.norm, E.tv z3 A3 n3 c3)] wx)
      case first =>
        refine wp_region_held_drew (S := fun W => SX w [(w2.heap.size, 0, .bool o1), (w2.heap.size, 1, .slice A1 n1 c1), (w5.heap.size, 0, .int .i64 z3), (w5.heap.size, 1, .slice A3 n3 c3)] [(w.heap.size + 1, 4)] [(i.norm, I.tv o1 A1 n1 c1)] [(x.norm, E.tv z3 A3 n3 c3)] W) (by kernel_rfl) ((HX5.out.drew).sub (by simp) (by simp) (by simp) (by simp)) (fun hS => ?_)
        have HXd := Lib.hid ((HX5.out.drew).sub (bs' := [(w2.heap.size, 0, .bool o1), (w2.heap.size, 1, .slice A1 n1 c1), (w5.heap.size, 0, .int .i64 z3), (w5.heap.size, 1, .slice A3 n3 c3)]) (rs' := [(w.heap.size + 1, 4)]) (is' := [(i.norm, I.tv o1 A1 n1 c1)]) (es' := [(x.norm, E.tv z3 A3 n3 c3)]) (by simp) (by simp) (by simp) (by simp))
        have sd : w5.heap.size + 1 ≤ w6.drew.heap.size := by simpa using sz6
        clear HX5
        generalize w6.drew = wd at *
        refine wpAnyH_take (i := 0) (v := ?_) rfl (by kernel_rfl) (by kernel_rfl) (by kernel_rfl) (fun _ _ _ h => h) (Or.inl ⟨by kernel_rfl, fun W hW => ?_⟩) hS ?_
        rotate_left
        · have f := hW.at0
          simp only [List.mem_cons, List.not_mem_nil, or_false, forall_eq_or_imp, forall_eq] at f
          obtain ⟨p0, p1, p2, p3⟩ := f
          first | (go_simp; done) | (go_simp; with_reducible rfl)
        refine wpAnyH_take (i := 2) (v := ?_) rfl (by kernel_rfl) (by kernel_rfl) (by kernel_rfl) (fun _ _ _ h => h) (Or.inl ⟨by kernel_rfl, fun W hW => ?_⟩) hS ?_
        rotate_left
        · have f := hW.at0
          simp only [List.mem_cons, List.not_mem_nil, or_false, forall_eq_or_imp, forall_eq] at f
          obtain ⟨p0, p1, p2, p3⟩ := f
          first | (go_simp; done) | (go_simp; with_reducible rfl)
        try go_simp
        refine wpAnyH_ready (rs := [1, 4]) (by kernel_rfl) (by simp) ?_
        refine AllReadyH.cons rfl (fun K hK => ?_) (AllReadyH.cons rfl (fun K hK => ?_) AllReadyH.nil)
        · have hcall := filler_any i.norm (I.tv o1 A1 n1 c1) wd wd.heap.size (HXd.out.iget (by simp)) (Nat.le_refl _)
          unfold I.tv at hcall
          go_simp
          go_wp2_with fail
          refine hcall.mono ?_
          rintro e wdx ⟨F, rfl, hF, hbx⟩
          obtain ⟨fn, caps, rfl, en, cal⟩ := hF
          have CAL := Lib.hid cal
          have KK := Lib.hid (KB.refl (fun k => wd.heap.size ≤ k ∧ k < wd.heap.size) wdx)
          have HXdx := Lib.hid (HXd.out.next hbx)
          have szwdx : wd.heap.size ≤ wdx.heap.size := hbx.size
          clear hcall cal hbx HXd
          refine hK.out _ _ (HXdx.out.sub (by simp) (by simp) (by simp) (by simp)) (fun hS => ?_)
          clear hK K
          try go_simp
          refine wpAnyH_ready (rs := [3, 4]) (by kernel_rfl) (by simp) ?_
          refine AllReadyH.cons rfl (fun K hK => ?_) (AllReadyH.cons rfl (fun K hK => ?_) AllReadyH.nil)
          · have hcall := CAL.out wdx x.norm (E.tv z3 A3 n3 c3) KK.out (HXdx.out.eget (by simp)) HOX.out
            unfold E.tv at hcall
            go_simp
            go_wp2_with fail
            refine hcall.mono ?_
            rintro e wdxx ⟨v7, rfl, ht7, hbx⟩
            obtain ⟨A7, n7, c7, rfl⟩ := E.InP.form ht7
            obtain ⟨z7, hz7⟩ : ∃ z7, (fillT i.norm x.norm).N = z7 := ⟨_, rfl⟩
            rw [hz7] at ht7 ⊢
            clear hz7
            have HXdxx := Lib.hid ((HXdx.out.next hbx).e ht7)
            have szwdxx : wdx.heap.size ≤ wdxx.heap.size := hbx.size
            clear hcall ht7 hbx HXdx
            unfold E.tv
            refine hK.out _ _ (HXdxx.out.sub (by simp) (by simp) (by simp) (by simp)) (fun hS => ?_)
            clear hK K
            try go_simp
            refine wpAnyH_ready (rs := [4]) (by kernel_rfl) (by simp) ?_
            refine AllReadyH.cons rfl (fun K hK => ?_) AllReadyH.nil
            go_simp
            go_wp2
            have HXdxxx' := HXdxx.out.two (.int .i64 0) (.slice none 0 0) 27
            have HXdxxx := Lib.hid HXdxxx'
            clear HXdxxx' HXdxx
            simp only [List.nil_append, List.cons_append] at HXdxxx
            have KKx := Lib.hid (KK.out.alloc (.cells #[.int .i64 0, .slice none 0 0] 27))
            clear KK
            refine hK.out _ _ (HXdxxx.out.sub (by simp) (by simp) (by simp) (by simp)) (fun hS => ?_)
            clear hK K
            have szwdxxx : wdxx.heap.size < (wdxx.alloc (.cells #[.int .i64 0, .slice none 0 0] 27)).heap.size := by simp
            generalize wdxx.alloc (.cells #[.int .i64 0, .slice none 0 0] 27) = wdxxx at *
            try go_simp
            refine wpAnyH_ready (rs := [5]) (by kernel_rfl) (by simp) ?_
            refine AllReadyH.cons rfl (fun K hK => ?_) AllReadyH.nil
            obtain ⟨y0, y1, q0, q1, q2, q3⟩ := HXdxxx.out.facts2 (wdxx.heap.size) (by simp)
            go_simp
            go_wp2
            have HXdxxxx := Lib.hid ((HXdxxx.out.sub (bs' := [(w2.heap.size, 0, .bool o1), (w2.heap.size, 1, .slice A1 n1 c1), (w5.heap.size, 0, .int .i64 z3), (w5.heap.size, 1, .slice A3 n3 c3)]) (rs' := [(w.heap.size + 1, 4), (wdxx.heap.size, 2)]) (is' := [(i.norm, I.tv o1 A1 n1 c1)]) (es' := [(fillT i.norm x.norm, E.tv z7 A7 n7 c7), (x.norm, E.tv z3 A3 n3 c3)]) (by simp) (by simp) (by simp) (by simp)).set2 (wdxx.heap.size) (.int .i64 z7) (.slice A7 n7 c7) (by simp) (by simp only [List.mem_cons, List.not_mem_nil, or_false, forall_eq_or_imp, forall_eq]; omega) (by simp; try omega))
            clear q0 q1 q2 q3 HXdxxx
            refine hK.out _ _ (HXdxxxx.out.sub (by simp) (by simp) (by simp) (by simp)) (fun hS => ?_)
            clear hK K
            generalize (wdxxx.setCell ⟨wdxx.heap.size, 0, none⟩ (.int .i64 z7)).setCell ⟨wdxx.heap.size, 1, none⟩ (.slice A7 n7 c7) = wdxxxx at *
            try go_simp
            refine wpAnyH_done (by kernel_rfl) ?_ _
            go_wp2_with fail
            go_meet
            exact ⟨wdxx.heap.size, z7, A7, n7, c7, rfl, by omega, HXdxxxx.out.sub (by simp) (by simp) (by simp) (by simp)⟩
          · go_simp
            go_wp2
            have HXdxx' := HXdx.out.two (.int .i64 0) (.slice none 0 0) 27
            have HXdxx := Lib.hid HXdxx'
            clear HXdxx' HXdx
            simp only [List.nil_append, List.cons_append] at HXdxx
            have KKx := Lib.hid (KK.out.alloc (.cells #[.int .i64 0, .slice none 0 0] 27))
            clear KK
            refine hK.out _ _ (HXdxx.out.sub (by simp) (by simp) (by simp) (by simp)) (fun hS => ?_)
            clear hK K
            have szwdxx : wdx.heap.size < (wdx.alloc (.cells #[.int .i64 0, .slice none 0 0] 27)).heap.size := by simp
            generalize wdx.alloc (.cells #[.int .i64 0, .slice none 0 0] 27) = wdxx at *
            try go_simp
            refine wpAnyH_ready (rs := [3]) (by kernel_rfl) (by simp) ?_
            refine AllReadyH.cons rfl (fun K hK => ?_) AllReadyH.nil
            have hcall := CAL.out wdxx x.norm (E.tv z3 A3 n3 c3) KKx.out (HXdxx.out.eget (by simp)) HOX.out
            unfold E.tv at hcall
            go_simp
            go_wp2_with fail
            refine hcall.mono ?_
            rintro e wdxxx ⟨v7, rfl, ht7, hbx⟩
            obtain ⟨A7, n7, c7, rfl⟩ := E.InP.form ht7
            obtain ⟨z7, hz7⟩ : ∃ z7, (fillT i.norm x.norm).N = z7 := ⟨_, rfl⟩
            rw [hz7] at ht7 ⊢
            clear hz7
            have HXdxxx := Lib.hid ((HXdxx.out.next hbx).e ht7)
            have szwdxxx : wdxx.heap.size ≤ wdxxx.heap.size := hbx.size
            clear hcall ht7 hbx HXdxx
            unfold E.tv
            refine hK.out _ _ (HXdxxx.out.sub (by simp) (by simp) (by simp) (by simp)) (fun hS => ?_)
            clear hK K
            try go_simp
            refine wpAnyH_ready (rs := [5]) (by kernel_rfl) (by simp) ?_
            refine AllReadyH.cons rfl (fun K hK => ?_) AllReadyH.nil
            obtain ⟨y0, y1, q0, q1, q2, q3⟩ := HXdxxx.out.facts2 (wdx.heap.size) (by simp)
            go_simp
            go_wp2
            have HXdxxxx := Lib.hid ((HXdxxx.out.sub (bs' := [(w2.heap.size, 0, .bool o1), (w2.heap.size, 1, .slice A1 n1 c1), (w5.heap.size, 0, .int .i64 z3), (w5.heap.size, 1, .slice A3 n3 c3)]) (rs' := [(w.heap.size + 1, 4), (wdx.heap.size, 2)]) (is' := [(i.norm, I.tv o1 A1 n1 c1)]) (es' := [(fillT i.norm x.norm, E.tv z7 A7 n7 c7), (x.norm, E.tv z3 A3 n3 c3)]) (by simp) (by simp) (by simp) (by simp)).set2 (wdx.heap.size) (.int .i64 z7) (.slice A7 n7 c7) (by simp) (by simp only [List.mem_cons, List.not_mem_nil, or_false, forall_eq_or_imp, forall_eq]; omega) (by simp; try omega))
            clear q0 q1 q2 q3 HXdxxx
            refine hK.out _ _ (HXdxxxx.out.sub (by simp) (by simp) (by simp) (by simp)) (fun hS => ?_)
            clear hK K
            generalize (wdxxx.setCell ⟨wdx.heap.size, 0, none⟩ (.int .i64 z7)).setCell ⟨wdx.heap.size, 1, none⟩ (.slice A7 n7 c7) = wdxxxx at *
            try go_simp
            refine wpAnyH_done (by kernel_rfl) ?_ _
            go_wp2_with fail
            go_meet
            exact ⟨wdx.heap.size, z7, A7, n7, c7, rfl, by omega, HXdxxxx.out.sub (by simp) (by simp) (by simp) (by simp)⟩
        · go_simp
          go_wp2
          have HXdx' := HXd.out.two (.int .i64 0) (.slice none 0 0) 27
          have HXdx := Lib.hid HXdx'
          clear HXdx' HXd
          simp only [List.nil_append, List.cons_append] at HXdx
          refine hK.out _ _ (HXdx.out.sub (by simp) (by simp) (by simp) (by simp)) (fun hS => ?_)
          clear hK K
          have szwdx : wd.heap.size < (wd.alloc (.cells #[.int .i64 0, .slice none 0 0] 27)).heap.size := by simp
          generalize wd.alloc (.cells #[.int .i64 0, .slice none 0 0] 27) = wdx at *
          try go_simp
          refine wpAnyH_ready (rs := [1]) (by kernel_rfl) (by simp) ?_
          refine AllReadyH.cons rfl (fun K hK => ?_) AllReadyH.nil
          have hcall := filler_any i.norm (I.tv o1 A1 n1 c1) wdx wdx.heap.size (HXdx.out.iget (by simp)) (Nat.le_refl _)
          unfold I.tv at hcall
          go_simp
          go_wp2_with fail
          refine hcall.mono ?_
          rintro e wdxx ⟨F, rfl, hF, hbx⟩
          obtain ⟨fn, caps, rfl, en, cal⟩ := hF
          have CAL := Lib.hid cal
          have KK := Lib.hid (KB.refl (fun k => wdx.heap.size ≤ k ∧ k < wdx.heap.size) wdxx)
          have HXdxx := Lib.hid (HXdx.out.next hbx)
          have szwdxx : wdx.heap.size ≤ wdxx.heap.size := hbx.size
          clear hcall cal hbx HXdx
          refine hK.out _ _ (HXdxx.out.sub (by simp) (by simp) (by simp) (by simp)) (fun hS => ?_)
          clear hK K
          try go_simp
          refine wpAnyH_ready (rs := [3]) (by kernel_rfl) (by simp) ?_
          refine AllReadyH.cons rfl (fun K hK => ?_) AllReadyH.nil
          have hcall := CAL.out wdxx x.norm (E.tv z3 A3 n3 c3) KK.out (HXdxx.out.eget (by simp)) HOX.out
          unfold E.tv at hcall
          go_simp
          go_wp2_with fail
          refine hcall.mono ?_
          rintro e wdxxx ⟨v7, rfl, ht7, hbx⟩
          obtain ⟨A7, n7, c7, rfl⟩ := E.InP.form ht7
          obtain ⟨z7, hz7⟩ : ∃ z7, (fillT i.norm x.norm).N = z7 := ⟨_, rfl⟩
          rw [hz7] at ht7 ⊢
          clear hz7
          have HXdxxx := Lib.hid ((HXdxx.out.next hbx).e ht7)
          have szwdxxx : wdxx.heap.size ≤ wdxxx.heap.size := hbx.size
          clear hcall ht7 hbx HXdxx
          unfold E.tv
          refine hK.out _ _ (HXdxxx.out.sub (by simp) (by simp) (by simp) (by simp)) (fun hS => ?_)
          clear hK K
          try go_simp
          refine wpAnyH_ready (rs := [5]) (by kernel_rfl) (by simp) ?_
          refine AllReadyH.cons rfl (fun K hK => ?_) AllReadyH.nil
          obtain ⟨y0, y1, q0, q1, q2, q3⟩ := HXdxxx.out.facts2 (wd.heap.size) (by simp)
          go_simp
          go_wp2
          have HXdxxxx := Lib.hid ((HXdxxx.out.sub (bs' := [(w2.heap.size, 0, .bool o1), (w2.heap.size, 1, .slice A1 n1 c1), (w5.heap.size, 0, .int .i64 z3), (w5.heap.size, 1, .slice A3 n3 c3)]) (rs' := [(w.heap.size + 1, 4), (wd.heap.size, 2)]) (is' := [(i.norm, I.tv o1 A1 n1 c1)]) (es' := [(fillT i.norm x.norm, E.tv z7 A7 n7 c7), (x.norm, E.tv z3 A3 n3 c3)]) (by simp) (by simp) (by simp) (by simp)).set2 (wd.heap.size) (.int .i64 z7) (.slice A7 n7 c7) (by simp) (by simp only [List.mem_cons, List.not_mem_nil, or_false, forall_eq_or_imp, forall_eq]; omega) (by simp; try omega))
          clear q0 q1 q2 q3 HXdxxx
          refine hK.out _ _ (HXdxxxx.out.sub (by simp) (by simp) (by simp) (by simp)) (fun hS => ?_)
          clear hK K
          generalize (wdxxx.setCell ⟨wd.heap.size, 0, none⟩ (.int .i64 z7)).setCell ⟨wd.heap.size, 1, none⟩ (.slice A7 n7 c7) = wdxxxx at *
          try go_simp
          refine wpAnyH_done (by kernel_rfl) ?_ _
          go_wp2_with fail
          go_meet
          exact ⟨wd.heap.size, z7, A7, n7, c7, rfl, by omega, HXdxxxx.out.sub (by simp) (by simp) (by simp) (by simp)⟩
      case rest =>
      obtain ⟨g8, z7, A7, n7, c7, rfl, n8, hX⟩ := hcut
      have HX7 := Lib.hid hX
      clear hX HX5
      have f := HX7.out.at0
      simp only [List.mem_cons, List.not_mem_nil, or_false, forall_eq_or_imp, forall_eq] at f
      obtain ⟨p0, p1, p2, p3, p4, p5⟩ := f
      have hc := E.same_arg (E.arg_of (HX7.out.eget (t := fillT i.norm x.norm) (v := E.tv z7 A7 n7 c7) (by simp))) (E.arg_of (HX7.out.eget (t := x.norm) (v := E.tv z3 A3 n3 c3) (by simp)))
      rw [E.fit_of HOF.out, E.fit_of HOX.out] at hc
      unfold E.tv at hc
      obtain ⟨sm, hsm⟩ : ∃ sm, E.sameO (some (fillT i.norm x.norm)) (some x.norm) = sm := ⟨_, rfl⟩
      rw [hsm] at hc
      have HSM := Lib.hid hsm
      clear hsm
      go_wp2_with fail
      refine hc.mono ?_
      rintro e w8 ⟨rfl, hb8⟩
      have HX8 := Lib.hid (HX7.out.next hb8)
      clear hc hb8 HX7
      clear p0 p1 p2 p3 p4 p5
      go_upto_if 36 with fail
      go_cut [] (fun wx => ∃ (z9 : Int) (A9 : Option Addr) (n9 c9 : Nat), SX w [(w2.heap.size, 0, .bool o1), (w2.heap.size, 1, .slice A1 n1 c1), (g8, 0, .int .i64 z9), (g8, 1, .slice A9 n9 c9)] [(w.heap.size + 1, 4)] [(i.norm, I.tv o1 A1 n1 c1)] [(afterT i.norm x.norm, E.tv z9 A9 n9 c9)] wx)
      case first =>
        cases sm with
        | false =>
          have hat : afterT i.norm x.norm = fillT i.norm x.norm := by
            have := HSM.out
            simp only [E.sameO, E.leqO] at this
            simp [afterT, this]
          go_wp2_with fail
          go_meet
          rw [hat]
          exact ⟨z7, A7, n7, c7, HX8.out.sub (by simp) (by simp) (by simp) (by simp)⟩
        | true =>
          have hat : afterT i.norm x.norm = (growT i.norm x.norm).1 := by
            have := HSM.out
            simp only [E.sameO, E.leqO] at this
            simp [afterT, this]
          have HAT := Lib.hid hat
          clear hat
          go_upto_region 9 with fail
          refine wp_region_held_drew (S := fun W => SX w [(w2.heap.size, 0, .bool o1), (w2.heap.size, 1, .slice A1 n1 c1), (w5.heap.size, 0, .int .i64 z3), (w5.heap.size, 1, .slice A3 n3 c3)] [(w.heap.size + 1, 4), (g8, 2)] [(i.norm, I.tv o1 A1 n1 c1)] [(x.norm, E.tv z3 A3 n3 c3)] W) (by kernel_rfl) ((HX8.out.drew).sub (by simp) (by simp) (by simp) (by simp)) (fun hS => ?_)
          have HXd := Lib.hid ((HX8.out.drew).sub (bs' := [(w2.heap.size, 0, .bool o1), (w2.heap.size, 1, .slice A1 n1 c1), (w5.heap.size, 0, .int .i64 z3), (w5.heap.size, 1, .slice A3 n3 c3)]) (rs' := [(w.heap.size + 1, 4), (g8, 2)]) (is' := [(i.norm, I.tv o1 A1 n1 c1)]) (es' := [(x.norm, E.tv z3 A3 n3 c3)]) (by simp) (by simp) (by simp) (by simp))
          clear HX8
          generalize w8.drew = wd at *
          refine wpAnyH_take (i := 0) (v := ?_) rfl (by kernel_rfl) (by kernel_rfl) (by kernel_rfl) (fun _ _ _ h => h) (Or.inl ⟨by kernel_rfl, fun W hW => ?_⟩) hS ?_
          rotate_left
          · have f := hW.at0
            simp only [List.mem_cons, List.not_mem_nil, or_false, forall_eq_or_imp, forall_eq] at f
            obtain ⟨p0, p1, p2, p3⟩ := f
            first | (go_simp; done) | (go_simp; with_reducible rfl)
          refine wpAnyH_take (i := 2) (v := ?_) rfl (by kernel_rfl) (by kernel_rfl) (by kernel_rfl) (fun _ _ _ h => h) (Or.inl ⟨by kernel_rfl, fun W hW => ?_⟩) hS ?_
          rotate_left
          · have f := hW.at0
            simp only [List.mem_cons, List.not_mem_nil, or_false, forall_eq_or_imp, forall_eq] at f
            obtain ⟨p0, p1, p2, p3⟩ := f
            first | (go_simp; done) | (go_simp; with_reducible rfl)
          try go_simp
          refine wpAnyH_ready (rs := [1]) (by kernel_rfl) (by simp) ?_
          refine AllReadyH.cons rfl (fun K hK => ?_) AllReadyH.nil
          have hcall := grower_any i.norm HDN.out HNZ.out HZZ.out (I.tv o1 A1 n1 c1) wd wd.heap.size (HXd.out.iget (by simp)) (Nat.le_refl _)
          unfold I.tv at hcall
          go_simp
          go_wp2_with fail
          refine hcall.mono ?_
          rintro e wdx ⟨F, rfl, hF, hbx⟩
          obtain ⟨fn, caps, rfl, en, cal⟩ := hF
          have CAL := Lib.hid cal
          have KK := Lib.hid (KB.refl (fun k => wd.heap.size ≤ k ∧ k < wd.heap.size) wdx)
          have HXdx := Lib.hid (HXd.out.next hbx)
          clear hcall cal hbx HXd
          refine hK.out _ _ (HXdx.out.sub (by simp) (by simp) (by simp) (by simp)) (fun hS => ?_)
          clear hK K
          try go_simp
          refine wpAnyH_ready (rs := [3]) (by kernel_rfl) (by simp) ?_
          refine AllReadyH.cons rfl (fun K hK => ?_) AllReadyH.nil
          have hcall := CAL.out wdx x.norm (E.tv z3 A3 n3 c3) KK.out (HXdx.out.eget (by simp)) HON.out
          unfold E.tv at hcall
          go_simp
          go_wp2_with fail
          refine hcall.mono ?_
          rintro e wdxx ⟨v9, rfl, ht9, hbx⟩
          obtain ⟨A9, n9, c9, rfl⟩ := E.InP.form ht9
          obtain ⟨z9, hz9⟩ : ∃ z9, (growT i.norm x.norm).1.N = z9 := ⟨_, rfl⟩
          rw [hz9] at ht9 ⊢
          clear hz9
          have HXdxx := Lib.hid ((HXdx.out.next hbx).e ht9)
          clear hcall ht9 hbx HXdx
          unfold E.tv cv
          refine hK.out _ _ (HXdxx.out.sub (by simp) (by simp) (by simp) (by simp)) (fun hS => ?_)
          clear hK K
          refine wpAnyH_take (i := 4) (v := ?_) rfl (by kernel_rfl) (by kernel_rfl) (by kernel_rfl) (fun _ _ _ h => h) (Yields.yieldsIf (Or.inl ⟨by kernel_rfl, ?_⟩)) hS ?_
          rotate_left
          · first | (intro w; go_simp; done) | (intro w; go_simp; with_reducible rfl)
          refine wpAnyH_take (i := 5) (v := ?_) rfl (by kernel_rfl) (by kernel_rfl) (by kernel_rfl) (fun _ _ _ h => h) (Yields.yieldsIf (Or.inl ⟨by kernel_rfl, ?_⟩)) hS ?_
          rotate_left
          · first | (intro w; go_simp; done) | (intro w; go_simp; with_reducible rfl)
          refine wpAnyH_take (i := 6) (v := ?_) rfl (by kernel_rfl) (by kernel_rfl) (by kernel_rfl) (fun _ _ _ h => h) (Yields.yieldsIf (Or.inl ⟨by kernel_rfl, ?_⟩)) hS ?_
          rotate_left
          · first | (intro w; go_simp; done) | (intro w; go_simp; with_reducible rfl)
          try go_simp
          refine wpAnyH_ready (rs := [7]) (by kernel_rfl) (by simp) ?_
          refine AllReadyH.cons rfl (fun K hK => ?_) AllReadyH.nil
          obtain ⟨y0, y1, q0, q1, q2, q3⟩ := HXdxx.out.facts2 g8 (by simp)
          go_simp
          go_wp2
          have HXdxxx := Lib.hid ((HXdxx.out.sub (bs' := [(w2.heap.size, 0, .bool o1), (w2.heap.size, 1, .slice A1 n1 c1), (w5.heap.size, 0, .int .i64 z3), (w5.heap.size, 1, .slice A3 n3 c3)]) (rs' := [(w.heap.size + 1, 4), (g8, 2)]) (is' := [(i.norm, I.tv o1 A1 n1 c1)]) (es' := [((growT i.norm x.norm).1, E.tv z9 A9 n9 c9), (x.norm, E.tv z3 A3 n3 c3)]) (by simp) (by simp) (by simp) (by simp)).set2 g8 (.int .i64 z9) (.slice A9 n9 c9) (by simp) (by simp only [List.mem_cons, List.not_mem_nil, or_false, forall_eq_or_imp, forall_eq]; omega) (by simp; try omega))
          clear q0 q1 q2 q3 HXdxx
          refine hK.out _ _ (HXdxxx.out.sub (by simp) (by simp) (by simp) (by simp)) (fun hS => ?_)
          clear hK K
          generalize (wdxx.setCell ⟨g8, 0, none⟩ (.int .i64 z9)).setCell ⟨g8, 1, none⟩ (.slice A9 n9 c9) = wdxxx at *
          try go_simp
          refine wpAnyH_done (by kernel_rfl) ?_ _
          go_wp2_with fail
          go_meet
          rw [HAT.out]
          exact ⟨z9, A9, n9, c9, HXdxxx.out.sub (by simp) (by simp) (by simp) (by simp)⟩
      case rest =>
      obtain ⟨z9, A9, n9, c9, hX⟩ := hcut
      have HX9 := Lib.hid hX
      clear hX HX8
      have f := HX9.out.at0
      simp only [List.mem_cons, List.not_mem_nil, or_false, forall_eq_or_imp, forall_eq] at f
      obtain ⟨p0, p1, p2, p3⟩ := f
      have hc := E.norm_arg (E.arg_of (HX9.out.eget (t := afterT i.norm x.norm) (v := E.tv z9 A9 n9 c9) (by simp)))
      unfold E.tv at hc
      by_cases hok : E.okT (afterT i.norm x.norm) = true
      · rw [E.fit_of hok] at hc
        have HPN : Hid (eventR (some i) (some x) = ((i.norm, (afterT i.norm x.norm).norm), 0)) := Lib.hid (by simp [eventR, HZZ.out, hok])
        clear hok
        simp only [E.normR] at hc
        go_wp2_with fail
        refine hc.mono ?_
        rintro e w10 ⟨v10, rfl, ht10, hb10⟩
        obtain ⟨Aq, nq, cq, rfl⟩ := E.InP.form ht10
        simp only at ht10 ⊢
        have ht10' := E.InP.old ht10
        obtain ⟨zq, hzq⟩ : ∃ zq, (afterT i.norm x.norm).norm.N = zq := ⟨_, rfl⟩
        rw [hzq] at ht10' ⊢
        have HZQ := Lib.hid hzq
        have sz10 : w.heap.size + 2 ≤ w10.heap.size := by
          have h1 := hb10.size
          have h2 := (HX9.out.box (w.heap.size + 1, 4) (by simp)).1.lt
          omega
        have HX10 := Lib.hid (((HX9.out.next hb10).e ht10').two (.int .i64 zq) (.slice Aq nq cq) 27)
        simp only [List.nil_append, List.cons_append] at HX10
        clear hc hb10 ht10 ht10' HX9 hzq
        clear p0 p1 p2 p3
        unfold E.tv
        go_upto_region 11 with fail
        generalize w10.alloc (.cells #[.int .i64 zq, .slice Aq nq cq] 27) = w11 at *
        have f := HX10.out.at0
        simp only [List.mem_cons, List.not_mem_nil, or_false, forall_eq_or_imp, forall_eq] at f
        obtain ⟨p0, p1, p2, p3, p4, p5⟩ := f
        obtain ⟨y0, y1, y2, y3, ⟨q0, q1, q2, q3⟩, r0, r1, r2, r3⟩ := HX10.out.facts4 (w.heap.size + 1) (by simp)
        have HX11 := Lib.hid ((HX10.out.sub (bs' := []) (rs' := [(w.heap.size + 1, 4)]) (is' := [(i.norm, I.tv o1 A1 n1 c1)]) (es' := [((afterT i.norm x.norm).norm, E.tv zq Aq nq cq)]) (by simp) (by simp) (by simp) (by simp)).set4 (w.heap.size + 1) o1 (.slice A1 n1 c1) zq (.slice Aq nq cq) (by simp) (by simp) (by simp))
        clear HX10
        go_wp2
        have f := HX11.out.at0
        simp only [List.mem_cons, List.not_mem_nil, or_false, forall_eq_or_imp, forall_eq] at f
        obtain ⟨f0, f1, f2, f3⟩ := f
        refine bodyPost_ret (v := .tuple #[sv o1 A1 n1 c1 zq Aq nq cq, .int .i64 0]) (by simp [results, Tryz.f13, go_sem, sv, f0, f1, f2, f3]) rfl ?_
        rw [HPN.out]
        exact ⟨_, rfl, ⟨o1, A1, n1, c1, Aq, nq, cq, by simp only; rw [HZQ.out], HX11.out.iget (by simp), by simp only; rw [HZQ.out]; exact HX11.out.eget (by simp)⟩, HX11.out.bel⟩
      · have hf : E.fit (afterT i.norm x.norm) = none := by unfold E.fit; rw [if_neg hok]
        rw [hf] at hc
        have HPN : Hid (eventR (some i) (some x) = (zeroS, 50)) := Lib.hid (by simp [eventR, HZZ.out, hok])
        clear hok hf
        simp only [E.normR] at hc
        go_wp2_with fail
        refine hc.mono ?_
        rintro e w10 ⟨v10, rfl, ht10, hb10⟩
        obtain ⟨Aq, nq, cq, rfl⟩ := E.InP.form ht10
        simp only [E.Tr.N] at ht10 ⊢
        have HX10 := Lib.hid ((HX9.out.next hb10).two (.int .i64 0) (.slice Aq nq cq) 27)
        simp only [List.nil_append, List.cons_append] at HX10
        clear hc hb10 ht10 HX9
        clear p0 p1 p2 p3
        unfold E.tv
        go_upto_region 11 with fail
        generalize w10.alloc (.cells #[.int .i64 0, .slice Aq nq cq] 27) = w11 at *
        obtain ⟨y0, y1, y2, y3, ⟨q0, q1, q2, q3⟩, r0, r1, r2, r3⟩ := HX10.out.facts4 (w.heap.size + 1) (by simp)
        have HX9 := Lib.hid ((HX10.out.sub0 (bs' := []) (rs' := [(w.heap.size + 1, 4)]) (by simp) (by simp)).set4 (w.heap.size + 1) false (.slice none 0 0) 0 (.slice none 0 0) (by simp) (by simp) (by simp))
        clear HX10
        go_wp2
        have f := HX9.out.at0
        simp only [List.mem_cons, List.not_mem_nil, or_false, forall_eq_or_imp, forall_eq] at f
        obtain ⟨f0, f1, f2, f3⟩ := f
        refine bodyPost_ret (v := .tuple #[sv false none 0 0 0 none 0 0, .int .i64 50]) (by simp [results, Tryz.f13, go_sem, sv, f0, f1, f2, f3]) rfl ?_
        rw [HPN.out]
        exact ⟨_, rfl, SIn.zero _, HX9.out.bel⟩
end Go.Proofs.YtoaglkjpjolacaaGreatDoor.S
namespace Go.Proofs.YtoaglkjpjolacaaGreatDoor.S
open Go.RowKit
def fkA : I.Tr := .node (.leaf true) (.leaf false)
def fkB : I.Tr := .node (.leaf false) (.leaf true)
def evA : E.Tr := .node 0 (.leaf 1) (.leaf 0)
theorem fitS : I.fit (.leaf true) = some (.leaf true) := I.fit_of (by decide) (by decide)
theorem fitA : I.fit fkA = some fkA := I.fit_of (by decide) (by decide)
theorem fitB : I.fit fkB = some fkB := I.fit_of (by decide) (by decide)
theorem fit0 : E.fit (.leaf 0) = some (.leaf 0) := E.fit_of (by decide +kernel)
theorem fitE : E.fit evA = some evA := E.fit_of (by decide +kernel)
theorem fork_seed : forkR (some (.leaf true)) (some (.leaf 0)) = ((fkA, .leaf 0), (fkB, .leaf 0), 0) := by rfl
theorem grow_A : (growT fkA (.leaf 0)).1 = evA := by
  unfold fkA
  rw [grow_leaf]
  simp only [innF]
  rw [innT]
  simp only [zero, if_true, Bool.false_eq_true, if_false]
  rw [growT]
  rfl
theorem event_A : eventR (some fkA) (some (.leaf 0)) = ((fkA, evA), 0) := by
  have h1 : fkA.norm = fkA := by rfl
  have h2 : (E.Tr.leaf 0).norm = .leaf 0 := by rfl
  have h3 : fillT fkA (.leaf 0) = .leaf 0 := by rfl
  have h4 : afterT fkA (.leaf 0) = evA := by
    unfold afterT
    rw [h3, if_pos (by decide +kernel)]
    exact grow_A
  have h5 : E.okT evA = true := by decide +kernel
  have h6 : evA.norm = evA := by rfl
  have h7 : zero fkA = false := by rfl
  simp only [eventR, h1, h2, h4, h5, h6, h7, if_true, Bool.false_eq_true, if_false]
theorem tx_A : E.txt evA.norm = [40, 48, 44, 49, 44, 48, 41] := by decide +kernel
theorem sh_A : E.showR (E.fit evA) = .tuple #[.string ⟨#[40, 48, 44, 49, 44, 48, 41]⟩, .int .i64 0] := by rw [fitE, E.showR, tx_A]; rfl
theorem leq_A : E.leqO (some (.leaf 0)) (some evA) = true := by decide +kernel
theorem leq_B : E.leqO (some evA) (some (.leaf 0)) = false := by decide +kernel
theorem seed_in (w : World) : SIn w (.leaf true) (.leaf 0) (sv true none 0 0 0 none 0 0) := ⟨true, none, 0, 0, none, 0, 0, rfl, ⟨none, 0, rfl⟩, ⟨none, 0, rfl⟩⟩
set_option maxRecDepth 100000 in
set_option maxHeartbeats 12800000 in
theorem shown_any (w : World) (htab : E.Tab w) : Calls Tryz.prog 7 #[] w fun e w' => e = .returned (.bool true) ∧ Below w.heap.size w w' := by
  have HTB := Lib.hid htab
  clear htab
  go_enter Tryz.func7, Tryz.ntmps7
  go_wp2_with fail
  refine (seed_any w).mono ?_
  rintro e w1 ⟨rfl, hb1⟩
  have hc := fork_any (seed_in w1).arg
  rw [fitS, fit0, fork_seed] at hc
  have HX1 := Lib.hid ((SX.begin w).next hb1)
  clear hb1
  unfold sv at hc ⊢
  go_wp2_with fail
  refine hc.mono ?_
  rintro e w2 ⟨u, v, rfl, ⟨o1, A1, n1, c1, A2, n2, c2, rfl, hi1, he1⟩, ⟨o3, A3, n3, c3, A4, n4, c4, rfl, hi2, he2⟩, hb2⟩
  simp only [E.Tr.N] at he1 he2 ⊢
  have sz2 : w.heap.size ≤ w2.heap.size := Nat.le_trans HX1.out.bel.size hb2.size
  have HX2 := Lib.hid ((((((HX1.out.next hb2).i hi1).i hi2).e he1).e he2).four o1 (.slice A1 n1 c1) 0 (.slice A2 n2 c2) 29 |>.four o3 (.slice A3 n3 c3) 0 (.slice A4 n4 c4) 29)
  simp only [List.nil_append, List.cons_append, World.size_alloc] at HX2
  clear hc hb2 hi1 hi2 he1 he2 HX1
  unfold sv
  go_upto_region 2 with fail
  generalize (w2.alloc (.cells #[.bool o1, .slice A1 n1 c1, .int .i64 0, .slice A2 n2 c2] 29)).alloc (.cells #[.bool o3, .slice A3 n3 c3, .int .i64 0, .slice A4 n4 c4] 29) = w3 at *
  have f := HX2.out.at0
  simp only [List.mem_cons, List.not_mem_nil, or_false, forall_eq_or_imp, forall_eq] at f
  obtain ⟨p0, p1, p2, p3, p4, p5, p6, p7⟩ := f
  have HA : Hid (SIn w3 fkA (.leaf 0) (sv o1 A1 n1 c1 0 A2 n2 c2)) := ⟨o1, A1, n1, c1, A2, n2, c2, rfl, HX2.out.iget (by simp), HX2.out.eget (by simp [E.Tr.N])⟩
  have HBB : Hid (SIn w3 fkB (.leaf 0) (sv o3 A3 n3 c3 0 A4 n4 c4)) := ⟨o3, A3, n3, c3, A4, n4, c4, rfl, HX2.out.iget (by simp), HX2.out.eget (by simp [E.Tr.N])⟩
  have hc := event_any HA.out.arg
  rw [fitA, fit0, event_A] at hc
  unfold sv at hc
  go_wp2_with fail
  refine hc.mono ?_
  rintro e w4 ⟨u, rfl, ⟨o5, A5, n5, c5, A6, n6, c6, rfl, hi3, he3⟩, hb4⟩
  simp only [evA, E.Tr.N] at he3 ⊢
  have sz4 : w2.heap.size + 2 ≤ w4.heap.size := by
    have h1 := hb4.size
    have h2 := (HX2.out.box (w2.heap.size + 1, 4) (by simp)).1.lt
    omega
  have HX4 := Lib.hid ((((HX2.out.next hb4).i hi3).e he3).four o5 (.slice A5 n5 c5) 0 (.slice A6 n6 c6) 29)
  simp only [List.nil_append, List.cons_append] at HX4
  have hbx : Below w3.heap.size w3 (w4.alloc (.cells #[.bool o5, .slice A5 n5 c5, .int .i64 0, .slice A6 n6 c6] 29)) := hb4.trans (((Below.refl w4.heap.size w4).alloc (Nat.le_refl _) _).mono hb4.size)
  have HA5 := Lib.hid (HA.out.up hbx)
  have HB5 := Lib.hid (HBB.out.up hbx)
  clear hc hb4 hi3 he3 HX2 HA HBB hbx
  clear p0 p1 p2 p3 p4 p5 p6 p7
  unfold sv
  go_upto_region 3 with fail
  generalize w4.alloc (.cells #[.bool o5, .slice A5 n5 c5, .int .i64 0, .slice A6 n6 c6] 29) = w5 at *
  have HE : Hid (SIn w5 fkA evA (sv o5 A5 n5 c5 0 A6 n6 c6)) := ⟨o5, A5, n5, c5, A6, n6, c6, rfl, HX4.out.iget (by simp), HX4.out.eget (by simp [evA, E.Tr.N])⟩
  have f := HX4.out.at0
  simp only [List.mem_cons, List.not_mem_nil, or_false, forall_eq_or_imp, forall_eq] at f
  obtain ⟨p0, p1, p2, p3, p4, p5, p6, p7, p8, p9, p10, p11⟩ := f
  have hc := E.show_arg (E.arg_of (HX4.out.eget (t := evA) (v := E.tv 0 A6 n6 c6) (by simp [evA]))) (HTB.out.up HX4.out.bel)
  rw [sh_A] at hc
  unfold E.tv at hc
  go_wp2_with fail
  refine hc.mono ?_
  rintro e w6 ⟨rfl, hb6⟩
  have HX6 := Lib.hid (HX4.out.next hb6)
  have HA6 := Lib.hid (HA5.out.up hb6)
  have HB6 := Lib.hid (HB5.out.up hb6)
  have HE6 := Lib.hid (HE.out.up hb6)
  clear hc hb6 HX4 HA5 HB5 HE
  clear p0 p1 p2 p3 p4 p5 p6 p7 p8 p9 p10 p11
  have f := HX6.out.at0
  simp only [List.mem_cons, List.not_mem_nil, or_false, forall_eq_or_imp, forall_eq] at f
  obtain ⟨p0, p1, p2, p3, p4, p5, p6, p7, p8, p9, p10, p11⟩ := f
  have hc := leq_any HA6.out.arg HE6.out.arg
  rw [fitA, fitE, fit0, leq_A] at hc
  simp only [Option.isSome_some, Bool.and_true] at hc
  unfold sv at hc
  go_wp2_with fail
  refine hc.mono ?_
  rintro e w7 ⟨rfl, hb7⟩
  have HX7 := Lib.hid (HX6.out.next hb7)
  have HB7 := Lib.hid (HB6.out.up hb7)
  have HE7 := Lib.hid (HE6.out.up hb7)
  clear hc hb7 HX6 HA6 HB6 HE6
  clear p0 p1 p2 p3 p4 p5 p6 p7 p8 p9 p10 p11
  have f := HX7.out.at0
  simp only [List.mem_cons, List.not_mem_nil, or_false, forall_eq_or_imp, forall_eq] at f
  obtain ⟨p0, p1, p2, p3, p4, p5, p6, p7, p8, p9, p10, p11⟩ := f
  have hc := leq_any HE7.out.arg HB7.out.arg
  rw [fitB, fitA, fitE, fit0, leq_B] at hc
  simp only [Option.isSome_some, Bool.and_false] at hc
  unfold sv at hc
  go_wp2_with fail
  refine hc.mono ?_
  rintro e w8 ⟨rfl, hb8⟩
  have HX8 := Lib.hid (HX7.out.next hb8).bel
  clear hc hb8 HX7
  clear p0 p1 p2 p3 p4 p5 p6 p7 p8 p9 p10 p11
  go_wp2
  go_ret
  exact ⟨rfl, HX8.out⟩
end Go.Proofs.YtoaglkjpjolacaaGreatDoor.S
