/-
  The program's Right, for whatever tree came in.
-/
import Derived.Test.YtflghlmikpfnpaaDoorENodes
import Derived.Test.YtflghlmikpfnpaaDoorESmall
namespace Go.Proofs.YtflghlmikpfnpaaDoor.E
open Go.RowKit Go.Shelf
attribute [local go_sem] Oper.semAt_some

theorem scope_wide {n : Nat} {P : Program} {c : Code} {Q : Exit → Act → World → Prop} {a : Act} {w : World} (h : c.wpIn Fence.wide n P (Exit.noGoto Q) a w) : (Code.scope c).wpIn Fence.wide n P Q a w := wpIn_wide.2 (wp_scope_straight (wpIn_wide.1 h))
theorem boxed_below {W W' : World} {B N : Nat} {t : TypeId} {v : Value} (h : Boxed W B t v) (hb : Below N W W') (hg : B < N) : Boxed W' B t v := (hb.block B hg).trans h

set_option maxRecDepth 100000 in
set_option maxHeartbeats 4000000 in
theorem right_walk (o : Int) (ks : Fo) (A : Option Addr) (c : Nat) (w : World) (hk : Kd (Lt w.heap.size) w ks A) :
    Calls Tryd.prog 16 #[tv o A ks.len c] w fun e w' => e = .returned (.bool (okL (walkT o ks 0 0))) ∧ Below w.heap.size w w' := by
  refine (callsIn_wide (n := 3)).1 ?_
  unfold tv
  refine callsIn_of_wp_marks Tryd.func16 rfl trivial ?_ rfl
  simp only [Tryd.ntmps16, List.size_toArray, List.length_cons, List.length_nil, Nat.reduceAdd, Nat.reduceSub, Array.replicate_succ, Array.replicate_zero, List.push_toArray, List.append_toArray, List.nil_append, List.cons_append]
  have HK := Lib.hid hk
  clear hk
  gi_wp2
  refine scope_wide ?_
  gi_wp2
  refine wpIn_label ?_
  gi_wp2_with (refine ⟨trivial, ?_⟩; gi_at_call 41; refine (nodes_in _ o A ks.len c _ _ _).mono ?_; rintro e w' ⟨rfl, rfl⟩)
  obtain ⟨W0, hW0⟩ : ∃ W0, ((((w.alloc (.cells #[.int .i64 o, .slice A ks.len c] 24)).alloc (.cells #[.int .i64 0] 3)).alloc (.cells #[.bool true] 4)).alloc (.cells #[.int .i64 o, .slice A ks.len c] 24)).alloc (.cells #[.int .i64 0, .int .i64 0] 58) = W0 := ⟨_, rfl⟩
  have hs0 : W0.heap.size = w.heap.size + 5 := by rw [← hW0]; simp
  have hb0 : Below w.heap.size w W0 := by rw [← hW0]; exact (four_boxes w _ _ _ _).alloc (by simp; omega) _
  have a0 : W0.cell? ⟨w.heap.size + 3, 0, none⟩ = some (.int .i64 o) := by rw [← hW0]; simp [go_sem]
  have a1 : W0.cell? ⟨w.heap.size + 3, 1, none⟩ = some (.slice A ks.len c) := by rw [← hW0]; simp [go_sem]
  have a2 : W0.cell? ⟨w.heap.size + 4, 0, none⟩ = some (.int .i64 0) := by rw [← hW0]; simp [go_sem]
  have a3 : W0.cell? ⟨w.heap.size + 4, 1, none⟩ = some (.int .i64 0) := by rw [← hW0]; simp [go_sem]
  have bc : Boxed W0 (w.heap.size + 1) 3 (.int .i64 0) := by
    rw [← hW0]
    have := Boxed.new (w.alloc (.cells #[.int .i64 o, .slice A ks.len c] 24)) 3 (.int .i64 0)
    rw [World.size_alloc] at this
    exact ((this.alloc _).alloc _).alloc _
  have br : Boxed W0 (w.heap.size + 2) 4 (.bool true) := by
    rw [← hW0]
    have := Boxed.new ((w.alloc (.cells #[.int .i64 o, .slice A ks.len c] 24)).alloc (.cells #[.int .i64 0] 3)) 4 (.bool true)
    simp only [World.size_alloc] at this
    exact (this.alloc _).alloc _
  simp only [Nat.add_assoc, Nat.reduceAdd]
  rw [hW0]
  have hseq := nodes_seq (Lt w.heap.size) (ks.size + 1) o ks A c 0 0 (w.heap.size + 3) (w.heap.size + 4) (fun k => k = w.heap.size + 1 ∨ k = w.heap.size + 2) (fun _ _ => True) (fun x => x.n = 0 ∨ x.n = 2) W0 (Nat.lt_succ_self _) (fun _ h => h) (fun _ _ _ => trivial)
    (HK.out.below hb0) (fun b hb => by have : b < w.heap.size := hb; omega) (by omega) (by omega) a0 a1 a2 a3 (by omega) (by omega) (fun k h => ⟨fun hp => by have : k < w.heap.size := hp; omega, by omega⟩)
  clear a0 a1 a2 a3 hW0 HK
  refine range_own (gf := 73) (lb := #[.pointer (some ⟨w.heap.size + 3, 0, none⟩), .pointer (some ⟨w.heap.size + 4, 0, none⟩)]) rfl (enters_of Tryd.func73 (by kernel_rfl) rfl) hseq (fun k h => by omega) (Below.refl _ _) (fun _ => rfl)
    (fun q V => Boxed V (w.heap.size + 1) 3 (.int .i64 (q.length : Int)) ∧ Boxed V (w.heap.size + 2) 4 (.bool true) ∧ Below w.heap.size w V ∧ okL (q.map It.key) = true)
    (fun cd q V => cd = .exit 0 ∧ Boxed V (w.heap.size + 2) 4 (.bool false) ∧ Below w.heap.size w V ∧ okL (q.map It.key) = false)
    (OwnFrom.and ((boxed_own _ _ (fun q : List It => .int .i64 (q.length : Int))).from _) (OwnFrom.and ((boxed_own _ _ _).from _) (OwnFrom.and (ownFrom_below (Nat.le_refl _) (by omega)) (ownFrom_pure _ _))))
    (fun cd => OwnFrom.and (ownFrom_pure _ _) (OwnFrom.and ((boxed_own _ _ _).from _) (OwnFrom.and (ownFrom_below (Nat.le_refl _) (by omega)) (ownFrom_pure _ _))))
    ⟨bc, br, hb0, rfl⟩
    (fun x a' V => ∃ Bx By, w.heap.size + 2 < Bx ∧ w.heap.size + 2 < By ∧ V.cell? ⟨Bx, 0, none⟩ = some (.int .i64 x.o) ∧ V.cell? ⟨Bx, 1, none⟩ = some (.slice x.A x.n x.c) ∧ V.cell? ⟨By, 0, none⟩ = some (.int .i64 x.d) ∧ V.cell? ⟨By, 1, none⟩ = some (.int .i64 x.s) ∧ a' = { tmps := #[.agg #[.int .i64 o, .slice A ks.len c], .pointer (some ⟨w.heap.size, 0, none⟩), .bool false, .pointer (some ⟨w.heap.size + 1, 0, none⟩), .pointer (some ⟨w.heap.size + 2, 0, none⟩), .pointer (some ⟨Bx, 0, none⟩), .pointer (some ⟨By, 0, none⟩), .agg #[.int .i64 o, .slice A ks.len c], .agg #[.int .i64 0, .int .i64 0], .func (.func 73) #[] #[.pointer (some ⟨w.heap.size + 3, 0, none⟩), .pointer (some ⟨w.heap.size + 4, 0, none⟩)], tv x.o x.A x.n x.c, .agg #[.int .i64 x.d, .int .i64 x.s], undef, undef, undef, undef, undef, undef, undef, undef, undef, undef, undef, undef, undef, undef], defers := [] })
    (fun x a' _ V V' row hs hg hr => by
      obtain ⟨Bx, By, hx, hy, b0, b1, b2, b3, e⟩ := hs
      exact ⟨Bx, By, hx, hy, cell_kept b0 hg (fun r e => (hr r e).2), cell_kept b1 hg (fun r e => (hr r e).2), cell_kept b2 hg (fun r e => (hr r e).2), cell_kept b3 hg (fun r e => (hr r e).2), e⟩) ?assign ?body ?done ?stop
  case assign =>
    rintro l' q x V K hsv ⟨h1, h2, h3, h4⟩ hK
    unfold It.enc tv
    gi_wp2
    exact hK _ _ (((Kept.refl _ V).alloc _).alloc _) ⟨(h1.alloc _).alloc _, (h2.alloc _).alloc _, (h3.alloc h3.size _).alloc (by simp; have := h3.size; omega) _, h4⟩ ⟨V.heap.size, V.heap.size + 1, h2.lt, by have := h2.lt; omega, by simp [go_sem], by simp [go_sem], by simp [go_sem], by simp [go_sem], rfl⟩
  case body =>
    rintro l' q x a' V hsv ⟨h1, h2, h3, h4⟩ ⟨Bx, By, hBx, hBy, b0, b1, b2, b3, rfl⟩ _
    have hq : q.length ≤ 2047 := by
      unfold okL at h4
      have := (Bool.and_eq_true_iff.1 h4).2
      have := of_decide_eq_true this
      simpa using this
    have hc := h1.cell
    have hf := h1.frozen
    have HG : Hid (okL ((q ++ [x]).map It.key) = (okN x.o x.n && (fitsB x.o x.d x.s && decide (q.length + 1 ≤ 2047)))) := by
      show _ = _
      unfold okL at h4 ⊢
      rw [List.map_append, List.all_append, (Bool.and_eq_true_iff.1 h4).1]
      simp [goodK, It.key, Bool.and_assoc]
    obtain ⟨V1, hV1⟩ : ∃ V1, V.setCell ⟨w.heap.size + 1, 0, none⟩ (.int .i64 ((q.length : Int) + 1)) = V1 := ⟨_, rfl⟩
    have e1 : Boxed V1 (w.heap.size + 1) 3 (.int .i64 ((q.length : Int) + 1)) := by rw [← hV1]; exact h1.set _
    have e2 : Boxed V1 (w.heap.size + 2) 4 (.bool true) := by rw [← hV1]; exact h2.other (by omega) _
    have e3 : Below w.heap.size w V1 := by rw [← hV1]; exact h3.setCell (p := ⟨w.heap.size + 1, 0, none⟩) (by show w.heap.size ≤ w.heap.size + 1; omega) _
    have oth : ∀ {b i : Nat} {v : Value}, w.heap.size + 2 < b → V.cell? ⟨b, i, none⟩ = some v → V1.cell? ⟨b, i, none⟩ = some v := fun {b i v} hb hc => by rw [← hV1]; exact (World.cell?_setCell_other _ _ _ _ (fun e => by injection e; omega)).trans hc
    have e4 := oth hBx b0
    have e5 := oth hBx b1
    have e6 := oth hBy b2
    have e7 := oth hBy b3
    clear oth
    have ek : Kept (fun k => k = w.heap.size + 1 ∨ k = w.heap.size + 2) V V1 := by rw [← hV1]; exact (Kept.refl _ V).setCell (p := ⟨w.heap.size + 1, 0, none⟩) (.inl rfl) _
    have hcall := (callsIn_wide (n := 2)).2 (rightNode_any x.o x.A x.n x.c V1)
    have hcall2 := fun W => (callsIn_wide (n := 2)).2 (fits_any x.o x.d x.s W)
    unfold tv at hcall ⊢
    have hq2 : (q.length : Int) ≤ 2047 := by omega
    have HE := Lib.hid hV1
    clear hV1 hseq bc br
    by_cases h_a : okN x.o x.n = true
    · rw [h_a] at hcall HG
      have h_a2 : x.n = 0 ∨ x.n = 2 := by
        unfold okN at h_a
        simp at h_a
        omega
      clear h_a
      gi_wp2_with fail
      refine ⟨trivial, ?_⟩
      rw [HE.out]
      refine (CallsIn.inRound l' hcall).mono ?_
      rintro e V2 ⟨rfl, hb2⟩
      have g1 := boxed_below e1 hb2 e1.lt
      have g4 := boxed_below e2 hb2 e2.lt
      have g5 := ek.trans (Kept.below hb2 (Nat.le_refl _))
      have g7 := e3.trans (hb2.mono e3.size)
      have r0 := (hb2.cell (World.block_lt_of_cell? V1 _ e4)).trans e4
      have r1 := (hb2.cell (World.block_lt_of_cell? V1 _ e5)).trans e5
      have r2 := (hb2.cell (World.block_lt_of_cell? V1 _ e6)).trans e6
      have r3 := (hb2.cell (World.block_lt_of_cell? V1 _ e7)).trans e7
      have hcl := hcall2 V2
      clear hcall hcall2 hc hf b0 b1 b2 b3 hb2 e1 e2 e3 e4 e5 e6 e7 ek h1 h2 h3
      obtain ⟨bf, hbf⟩ : ∃ bf, fitsB x.o x.d x.s = bf := ⟨_, rfl⟩
      rw [hbf] at hcl HG
      clear hbf
      gi_wp2_with fail
      refine ⟨trivial, ?_⟩
      refine (CallsIn.inRound l' hcl).mono ?_
      rintro e V3 ⟨rfl, hb3⟩
      have k1 := boxed_below g1 hb3 g1.lt
      have k4 := boxed_below g4 hb3 g4.lt
      have k5 := g5.trans (Kept.below hb3 (Nat.le_refl _))
      have k7 := g7.trans (hb3.mono g7.size)
      have f1 := k1.cell
      have f2 := k4.cell
      have f3 := k4.frozen
      clear hcl r0 r1 r2 r3 hb3 g1 g4 g5 g7
      cases bf with
      | true =>
        by_cases h_n : q.length + 1 ≤ 2047
        · rw [decide_eq_true h_n] at HG
          have h_n2 : ¬ (2047 : Int) < (q.length : Int) + 1 := by omega
          clear h_n
          gi_wp2
          exact ⟨k5, h_a2, by rw [List.length_append]; exact k1, k4, k7, by rw [HG.out]; rfl⟩
        · rw [decide_eq_false h_n] at HG
          have h_n2 : (2047 : Int) < (q.length : Int) + 1 := by omega
          clear h_n
          gi_wp2
          exact ⟨k5.setCell (p := ⟨w.heap.size + 2, 0, none⟩) (.inr rfl) _, rfl, k4.set _, k7.setCell (p := ⟨w.heap.size + 2, 0, none⟩) (by show w.heap.size ≤ w.heap.size + 2; omega) _, by rw [HG.out]; rfl⟩
      | false =>
        gi_wp2
        exact ⟨k5.setCell (p := ⟨w.heap.size + 2, 0, none⟩) (.inr rfl) _, rfl, k4.set _, k7.setCell (p := ⟨w.heap.size + 2, 0, none⟩) (by show w.heap.size ≤ w.heap.size + 2; omega) _, by rw [HG.out]; rfl⟩
    · have h_a2 : okN x.o x.n = false := by simpa using h_a
      rw [h_a2] at hcall HG
      clear h_a h_a2 hcall2
      gi_wp2_with fail
      refine ⟨trivial, ?_⟩
      rw [HE.out]
      refine (CallsIn.inRound l' hcall).mono ?_
      rintro e V2 ⟨rfl, hb2⟩
      have g4 := boxed_below e2 hb2 e2.lt
      have g5 := ek.trans (Kept.below hb2 (Nat.le_refl _))
      have g7 := e3.trans (hb2.mono e3.size)
      have f2 := g4.cell
      have f3 := g4.frozen
      clear hcall hc hf b0 b1 b2 b3 hb2 e1 e2 e3 e4 e5 e6 e7 ek h1 h2 h3
      gi_wp2
      exact ⟨g5.setCell (p := ⟨w.heap.size + 2, 0, none⟩) (.inr rfl) _, rfl, g4.set _, g7.setCell (p := ⟨w.heap.size + 2, 0, none⟩) (by show w.heap.size ≤ w.heap.size + 2; omega) _, by rw [HG.out]; rfl⟩
  case done =>
    rintro D xs V hD hxs ⟨h1, h2, h3, h4⟩ hdf
    have c2 := h2.cell
    rw [hxs] at h4
    clear hseq bc br
    have HB : Hid (∀ o', Below w.heap.size w (V.putObj D o')) := fun o' => h3.trans (belowK_b (w := w) (Nat.le_refl _) V D _ _ (by omega) hdf rfl rfl)
    gi_wp2
    refine ⟨by simp, .inl ⟨_, _, rfl, run_takeDeferred hdf, ?_⟩⟩
    exact ⟨_, results_tmp rfl _ _ _, by rw [h4]; rfl, HB.out _⟩
  case stop =>
    rintro D cd q V hD hq ⟨rfl, h2, h3, h4⟩ hdf
    have c2 := h2.cell
    have HF : Hid (okL (walkT o ks 0 0) = false) := by
      show _ = _
      obtain ⟨r, hr⟩ := hq
      unfold okL at h4 ⊢
      rw [← hr, List.all_append, List.length_append]
      cases hh : (List.map It.key q).all goodK with
      | false => simp
      | true =>
        rw [hh] at h4
        have : ¬ (List.map It.key q).length ≤ 2047 := by simpa using h4
        rw [decide_eq_false (by omega : ¬ (List.map It.key q).length + r.length ≤ 2047), Bool.and_false]
    clear hseq bc br
    have HB : Hid (∀ o', Below w.heap.size w (V.putObj D o')) := fun o' => h3.trans (belowK_b (w := w) (Nat.le_refl _) V D _ _ (by omega) hdf rfl rfl)
    clear h4 hq
    gi_wp2
    refine ⟨by simp, .inl ⟨_, _, rfl, run_takeDeferred hdf, ?_⟩⟩
    exact ⟨_, results_tmp rfl _ _ _, by rw [HF.out]; rfl, HB.out _⟩
theorem right_any (o : Int) (ks : Fo) (A : Option Addr) (c : Nat) (w : World) (hk : Kd (Lt w.heap.size) w ks A) :
    Calls Tryd.prog 16 #[tv o A ks.len c] w fun e w' => e = .returned (.bool (treeOf o ks).isSome) ∧ Below w.heap.size w w' := by
  rw [← okL_tree]; exact right_walk o ks A c w hk
theorem right_arg {w : World} {T : Option Tr} {v : Value} (h : Arg w T v) : Calls Tryd.prog 16 #[v] w fun e w' => e = .returned (.bool T.isSome) ∧ Below w.heap.size w w' := by
  obtain ⟨o, ks, A, c, rfl, hk, rfl⟩ := h
  exact right_any o ks A c w hk
end Go.Proofs.YtflghlmikpfnpaaDoor.E
