/-
  The program's ends: the least and the greatest count, node by node.
-/
import Derived.Test.YtflghlmikpfnpaaDoorEPRight
import Derived.BigQuiet
namespace Go.Proofs.YtflghlmikpfnpaaDoor.E
open Go.RowKit Go.Shelf
attribute [local go_sem] Oper.semAt_some

def stLo (a : Int) (k : Key) : Int := if k.2.1 = 0 then (if wrap64 (k.2.2.2 + k.1) < a then wrap64 (k.2.2.2 + k.1) else a) else a
def stHi (a : Int) (k : Key) : Int := if k.2.1 = 0 then (if a < wrap64 (k.2.2.2 + k.1) then wrap64 (k.2.2.2 + k.1) else a) else a
theorem walkK_ends : ∀ (f : Fo) (ts : List Tr) (d s : Int), trees f = some ts → 0 ≤ s → s ≤ mc → (∀ t ∈ ts, t.okc (mc - s) = true) → ∀ a b, (walkK f d s).foldl stLo a = ts.foldl (fun a t => min a (s + low t)) a ∧ (walkK f d s).foldl stHi b = ts.foldl (fun a t => max a (s + high t)) b
  | .nil, ts, d, s, h, _, _, _, a, b => by simp [trees] at h; subst h; exact ⟨rfl, rfl⟩
  | .cons n ks rest, ts, d, s, h, h0, h1, hok, a, b => by
    have hm : mc = 4611686018427387904 := rfl
    simp only [trees] at h
    obtain ⟨k, hk, h⟩ := Option.bind_eq_some_iff.1 h
    obtain ⟨t, ht, h⟩ := Option.bind_eq_some_iff.1 h
    obtain ⟨r, hr, rfl⟩ := Option.map_eq_some_iff.1 h
    have hl := trees_len ks k hk
    have htok := hok t List.mem_cons_self
    have ihr := walkK_ends rest r d s hr h0 h1 fun t ht => hok t (List.mem_cons_of_mem _ ht)
    rw [walkK_cons, walkT]
    simp only [List.cons_append, List.foldl_cons, List.foldl_append]
    match k, ht with
    | [], ht =>
      simp only [one, Option.some.injEq] at ht
      subst ht
      have hn := okc_N _ _ htok
      simp only [Tr.N] at hn
      have e0 : ks.len = 0 := hl.symm
      have ek : ks = .nil := by cases ks with | nil => rfl | cons _ _ _ => simp [Fo.len] at e0
      subst ek
      have hw : wrap64 (s + n) = s + n := wrap64_id (by omega) (by omega)
      simp only [walkK, List.foldl_nil]
      have e1 : stLo a (n, Fo.nil.len, d, s) = min a (s + low (.leaf n)) := by
        simp only [stLo, Fo.len, if_true, hw, low]; omega
      have e2 : stHi b (n, Fo.nil.len, d, s) = max b (s + high (.leaf n)) := by
        simp only [stHi, Fo.len, if_true, hw, high]; omega
      rw [e1, e2]
      exact ihr _ _
    | [x, y], ht =>
      simp only [one, Option.some.injEq] at ht
      subst ht
      have hn := okc_N _ _ htok
      simp only [Tr.N] at hn
      simp only [Tr.okc, Bool.and_eq_true_iff, decide_eq_true_eq] at htok
      have e0 : ks.len = 2 := hl.symm
      have hw : wrap64 (s + n) = s + n := wrap64_id (by omega) (by omega)
      have ihk := walkK_ends ks [x, y] (wrap64 (d + 1)) (s + n) hk (by omega) (by omega) (by
        rw [show mc - (s + n) = mc - s - n by omega]
        simp only [List.mem_cons, List.not_mem_nil, or_false, forall_eq_or_imp, forall_eq]
        exact htok.2) a b
      have e1 : stLo a (n, ks.len, d, s) = a := if_neg (by simp [e0])
      have e2 : stHi b (n, ks.len, d, s) = b := if_neg (by simp [e0])
      rw [e1, e2, hw, ihk.1, ihk.2]
      simp only [List.foldl_cons, List.foldl_nil]
      have e3 : min (min a (s + n + low x)) (s + n + low y) = min a (s + low (.node n x y)) := by simp only [low]; omega
      have e4 : max (max b (s + n + high x)) (s + n + high y) = max b (s + high (.node n x y)) := by simp only [high]; omega
      rw [e3, e4]
      exact ihr _ _
    | [_], ht => simp [one] at ht
    | _ :: _ :: _ :: _, ht => simp [one] at ht
theorem walkT_ends {n : Int} {ks : Fo} {t : Tr} (d s : Int) (h : (trees ks).bind (one n) = some t) (h0 : 0 ≤ s) (h1 : s ≤ mc) (hok : t.okc (mc - s) = true) : (walkT n ks d s).foldl stLo mc = s + low t ∧ (walkT n ks d s).foldl stHi 0 = s + high t := by
  obtain ⟨k, hk, ht⟩ := Option.bind_eq_some_iff.1 h
  have := walkK_ends (.cons n ks .nil) [t] d s (by simp [trees, hk, ht]) h0 h1 (by simpa using hok) mc 0
  rw [walkK_cons] at this
  simp only [walkK, List.append_nil, List.foldl_cons, List.foldl_nil] at this
  have a := low_okc hok
  have b := high_okc hok
  omega

set_option maxRecDepth 100000 in
set_option maxHeartbeats 4000000 in
theorem ends_walk (o : Int) (ks : Fo) (A : Option Addr) (c : Nat) (s : Int) (P : Nat → Prop) (w : World) (hk : Kd P w ks A) (hP : ∀ b, P b → b < w.heap.size) (hl : ∀ k ∈ walkT o ks 0 s, k.2.1 = 0 ∨ k.2.1 = 2) :
    Calls Tryd.prog 38 #[tv o A ks.len c, .int .i64 s] w fun e w' => e = .returned (.tuple #[.int .i64 ((walkT o ks 0 s).foldl stLo 4611686018427387904), .int .i64 ((walkT o ks 0 s).foldl stHi 0)]) ∧ Below w.heap.size w w' := by
  refine (callsIn_wide (n := 3)).1 ?_
  unfold tv
  refine callsIn_of_wp_marks Tryd.func38 rfl trivial ?_ rfl
  simp only [Tryd.ntmps38, List.size_toArray, List.length_cons, List.length_nil, Nat.reduceAdd, Nat.reduceSub, Array.replicate_succ, Array.replicate_zero, List.push_toArray, List.append_toArray, List.nil_append, List.cons_append]
  have HK := Lib.hid hk
  have HP := Lib.hid hP
  have HLN := Lib.hid hl
  clear hk hP hl
  gi_wp2_with (refine ⟨trivial, ?_⟩; gi_at_call 41; refine (nodes_in _ o A ks.len c _ _ _).mono ?_; rintro e w' ⟨rfl, rfl⟩)
  obtain ⟨W0, hW0⟩ : ∃ W0, ((((w.alloc (.cells #[.int .i64 o, .slice A ks.len c] 24)).alloc (.cells #[.int .i64 4611686018427387904] 2)).alloc (.cells #[.int .i64 0] 2)).alloc (.cells #[.int .i64 o, .slice A ks.len c] 24)).alloc (.cells #[.int .i64 0, .int .i64 s] 58) = W0 := ⟨_, rfl⟩
  have hs0 : W0.heap.size = w.heap.size + 5 := by rw [← hW0]; simp
  have hb0 : Below w.heap.size w W0 := by rw [← hW0]; exact (four_boxes w _ _ _ _).alloc (by simp; omega) _
  have a0 : W0.cell? ⟨w.heap.size + 3, 0, none⟩ = some (.int .i64 o) := by rw [← hW0]; simp [go_sem]
  have a1 : W0.cell? ⟨w.heap.size + 3, 1, none⟩ = some (.slice A ks.len c) := by rw [← hW0]; simp [go_sem]
  have a2 : W0.cell? ⟨w.heap.size + 4, 0, none⟩ = some (.int .i64 0) := by rw [← hW0]; simp [go_sem]
  have a3 : W0.cell? ⟨w.heap.size + 4, 1, none⟩ = some (.int .i64 s) := by rw [← hW0]; simp [go_sem]
  have bc : Boxed W0 (w.heap.size + 1) 2 (.int .i64 4611686018427387904) := by
    rw [← hW0]
    have := Boxed.new (w.alloc (.cells #[.int .i64 o, .slice A ks.len c] 24)) 2 (.int .i64 4611686018427387904)
    rw [World.size_alloc] at this
    exact ((this.alloc _).alloc _).alloc _
  have br : Boxed W0 (w.heap.size + 2) 2 (.int .i64 0) := by
    rw [← hW0]
    have := Boxed.new ((w.alloc (.cells #[.int .i64 o, .slice A ks.len c] 24)).alloc (.cells #[.int .i64 4611686018427387904] 2)) 2 (.int .i64 0)
    simp only [World.size_alloc] at this
    exact (this.alloc _).alloc _
  simp only [Nat.add_assoc, Nat.reduceAdd]
  rw [hW0]
  have hseq := nodes_seq P (ks.size + 1) o ks A c 0 s (w.heap.size + 3) (w.heap.size + 4) (fun k => k = w.heap.size + 1 ∨ k = w.heap.size + 2) (fun _ x => x.n = 0 ∨ x.n = 2) (fun x => x.n = 0 ∨ x.n = 2) W0 (Nat.lt_succ_self _) (fun _ h => h) (fun pre x hx => HLN.out x.key (by obtain ⟨r, hr⟩ := hx; rw [← hr]; simp))
    (HK.out.keep fun p v hp hc => (hb0.cell (HP.out _ hp)).trans hc) (fun b hb => by have := HP.out b hb; omega) (by omega) (by omega) a0 a1 a2 a3 (by omega) (by omega) (fun k h => ⟨fun hp => by have := HP.out k hp; omega, by omega⟩)
  clear a0 a1 a2 a3 hW0 HK HP HLN
  refine range_own (gf := 73) (lb := #[.pointer (some ⟨w.heap.size + 3, 0, none⟩), .pointer (some ⟨w.heap.size + 4, 0, none⟩)]) rfl (enters_of Tryd.func73 (by kernel_rfl) rfl) hseq (fun k h => by omega) (Below.refl _ _) (fun _ => rfl)
    (fun q V => Boxed V (w.heap.size + 1) 2 (.int .i64 ((q.map It.key).foldl stLo 4611686018427387904)) ∧ Boxed V (w.heap.size + 2) 2 (.int .i64 ((q.map It.key).foldl stHi 0)) ∧ Below w.heap.size w V)
    (fun cd q V => False)
    (OwnFrom.and ((boxed_own _ _ (fun q : List It => .int .i64 ((q.map It.key).foldl stLo 4611686018427387904))).from _) (OwnFrom.and ((boxed_own _ _ (fun q : List It => .int .i64 ((q.map It.key).foldl stHi 0))).from _) (ownFrom_below (Nat.le_refl _) (by omega))))
    (fun cd => ownFrom_pure _ _)
    ⟨bc, br, hb0⟩
    (fun x a' V => ∃ Bx By, w.heap.size + 2 < Bx ∧ w.heap.size + 2 < By ∧ V.cell? ⟨Bx, 0, none⟩ = some (.int .i64 x.o) ∧ V.cell? ⟨Bx, 1, none⟩ = some (.slice x.A x.n x.c) ∧ V.cell? ⟨By, 0, none⟩ = some (.int .i64 x.d) ∧ V.cell? ⟨By, 1, none⟩ = some (.int .i64 x.s) ∧ a' = { tmps := #[.agg #[.int .i64 o, .slice A ks.len c], .int .i64 s, .pointer (some ⟨w.heap.size, 0, none⟩), undef, .int .i64 0, .int .i64 0, .pointer (some ⟨w.heap.size + 1, 0, none⟩), .pointer (some ⟨w.heap.size + 2, 0, none⟩), .pointer (some ⟨Bx, 0, none⟩), .pointer (some ⟨By, 0, none⟩), .agg #[.int .i64 o, .slice A ks.len c], .int .i64 s, .agg #[.int .i64 0, .int .i64 s], .func (.func 73) #[] #[.pointer (some ⟨w.heap.size + 3, 0, none⟩), .pointer (some ⟨w.heap.size + 4, 0, none⟩)], tv x.o x.A x.n x.c, .agg #[.int .i64 x.d, .int .i64 x.s], undef, undef, undef, undef, undef, undef, undef, undef, undef, undef, undef, undef, undef, undef, undef, undef, undef, undef], defers := [] })
    (fun x a' _ V V' row hs hg hr => by
      obtain ⟨Bx, By, hx, hy, b0, b1, b2, b3, e⟩ := hs
      exact ⟨Bx, By, hx, hy, cell_kept b0 hg (fun r e => (hr r e).2), cell_kept b1 hg (fun r e => (hr r e).2), cell_kept b2 hg (fun r e => (hr r e).2), cell_kept b3 hg (fun r e => (hr r e).2), e⟩) ?assign ?body ?done ?stop
  case assign =>
    rintro l' q x V K hsv ⟨h1, h2, h3⟩ hK
    unfold It.enc tv
    gi_wp2
    exact hK _ _ (((Kept.refl _ V).alloc _).alloc _) ⟨(h1.alloc _).alloc _, (h2.alloc _).alloc _, (h3.alloc h3.size _).alloc (by simp; have := h3.size; omega) _⟩ ⟨V.heap.size, V.heap.size + 1, h2.lt, by have := h2.lt; omega, by simp [go_sem], by simp [go_sem], by simp [go_sem], by simp [go_sem], rfl⟩
  case body =>
    rintro l' q x a' V hsv ⟨h1, h2, h3⟩ ⟨Bx, By, hBx, hBy, b0, b1, b2, b3, rfl⟩ hx
    have HLo : Hid (((q ++ [x]).map It.key).foldl stLo 4611686018427387904 = stLo ((q.map It.key).foldl stLo 4611686018427387904) x.key) := by show _ = _; simp
    have HHi : Hid (((q ++ [x]).map It.key).foldl stHi 0 = stHi ((q.map It.key).foldl stHi 0) x.key) := by show _ = _; simp
    obtain ⟨L, hL⟩ : ∃ L, (q.map It.key).foldl stLo 4611686018427387904 = L := ⟨_, rfl⟩
    obtain ⟨M, hM⟩ : ∃ M, (q.map It.key).foldl stHi 0 = M := ⟨_, rfl⟩
    rw [hL] at h1 HLo
    rw [hM] at h2 HHi
    have hcall := (callsIn_wide (n := 2)).2 (pleaf_any x.o x.A x.n x.c V)
    unfold tv at hcall ⊢
    clear hseq bc br hL hM
    gi_wp2_with fail
    refine ⟨trivial, ?_⟩
    refine (CallsIn.inRound l' hcall).mono ?_
    rintro e V2 ⟨rfl, hb2⟩
    have g1 := boxed_below h1 hb2 h1.lt
    have g2 := boxed_below h2 hb2 h2.lt
    have gk : Kept (fun k => k = w.heap.size + 1 ∨ k = w.heap.size + 2) V V2 := Kept.below hb2 (Nat.le_refl _)
    have g3 := h3.trans (hb2.mono h3.size)
    have r0 := (hb2.cell (World.block_lt_of_cell? V _ b0)).trans b0
    have r3 := (hb2.cell (World.block_lt_of_cell? V _ b3)).trans b3
    clear hcall hb2 h1 h2 h3 b0 b1 b2 b3
    have HX := Lib.hid hx
    by_cases h0 : x.n = 0
    · have HLo2 : Hid (((q ++ [x]).map It.key).foldl stLo 4611686018427387904 = if wrap64 (x.s + x.o) < L then wrap64 (x.s + x.o) else L) := HLo.out.trans (if_pos h0)
      have HHi2 : Hid (((q ++ [x]).map It.key).foldl stHi 0 = if M < wrap64 (x.s + x.o) then wrap64 (x.s + x.o) else M) := HHi.out.trans (if_pos h0)
      obtain ⟨z, hz⟩ : ∃ z, wrap64 (x.s + x.o) = z := ⟨_, rfl⟩
      rw [hz] at HLo2 HHi2
      obtain ⟨L2, hL2⟩ : ∃ L2, (if z < L then z else L) = L2 := ⟨_, rfl⟩
      obtain ⟨M2, hM2⟩ : ∃ M2, (if M < z then z else M) = M2 := ⟨_, rfl⟩
      rw [hL2] at HLo2
      rw [hM2] at HHi2
      have h0b : decide (x.n = 0) = true := decide_eq_true h0
      rw [h0b]
      have c1 := g1.cell
      have f1 := g1.frozen
      have c2 := g2.cell
      have f2 := g2.frozen
      obtain ⟨V3, hV3⟩ : ∃ V3, V2.setCell ⟨w.heap.size + 1, 0, none⟩ (.int .i64 L2) = V3 := ⟨_, rfl⟩
      have g1' : Boxed V3 (w.heap.size + 1) 2 (.int .i64 L2) := by rw [← hV3]; exact g1.set _
      have g2' : Boxed V3 (w.heap.size + 2) 2 (.int .i64 M) := by rw [← hV3]; exact g2.other (by omega) _
      have k3 : V3.cell? ⟨By, 1, none⟩ = some (.int .i64 x.s) := by rw [← hV3]; exact (World.cell?_setCell_other _ _ _ _ (fun e => by injection e; omega)).trans r3
      have k0 : V3.cell? ⟨Bx, 0, none⟩ = some (.int .i64 x.o) := by rw [← hV3]; exact (World.cell?_setCell_other _ _ _ _ (fun e => by injection e; omega)).trans r0
      have c2' := g2'.cell
      have f2' := g2'.frozen
      have HG : Hid (Kept (fun k => k = w.heap.size + 1 ∨ k = w.heap.size + 2) V (V3.setCell ⟨w.heap.size + 2, 0, none⟩ (.int .i64 M2)) ∧ Boxed (V3.setCell ⟨w.heap.size + 2, 0, none⟩ (.int .i64 M2)) (w.heap.size + 1) 2 (.int .i64 L2) ∧ Boxed (V3.setCell ⟨w.heap.size + 2, 0, none⟩ (.int .i64 M2)) (w.heap.size + 2) 2 (.int .i64 M2) ∧ Below w.heap.size w (V3.setCell ⟨w.heap.size + 2, 0, none⟩ (.int .i64 M2))) := by
        refine ⟨?_, g1'.other (by omega) _, g2'.set _, ?_⟩
        · rw [← hV3]; exact (gk.setCell (p := ⟨w.heap.size + 1, 0, none⟩) (.inl rfl) _).setCell (p := ⟨w.heap.size + 2, 0, none⟩) (.inr rfl) _
        · rw [← hV3]; exact (g3.setCell (p := ⟨w.heap.size + 1, 0, none⟩) (by show w.heap.size ≤ w.heap.size + 1; omega) _).setCell (p := ⟨w.heap.size + 2, 0, none⟩) (by show w.heap.size ≤ w.heap.size + 2; omega) _
      clear h0 h0b g1 g2 g1' g2' gk g3 HLo HHi
      gi_wp2
      refine ⟨HG.out.1, HX.out, ?_, ?_, HG.out.2.2.2⟩
      · rw [HLo2.out]; exact HG.out.2.1
      · rw [HHi2.out]; exact HG.out.2.2.1
    · have HLo2 : Hid (((q ++ [x]).map It.key).foldl stLo 4611686018427387904 = L) := HLo.out.trans (if_neg h0)
      have HHi2 : Hid (((q ++ [x]).map It.key).foldl stHi 0 = M) := HHi.out.trans (if_neg h0)
      have h0b : decide (x.n = 0) = false := decide_eq_false h0
      rw [h0b]
      clear h0 h0b HLo HHi r0 r3
      gi_wp2
      refine ⟨gk, HX.out, ?_, ?_, g3⟩
      · rw [HLo2.out]; exact g1
      · rw [HHi2.out]; exact g2
  case done =>
    rintro D xs V hD hxs ⟨h1, h2, h3⟩ hdf
    rw [hxs] at h1 h2
    have c1 := h1.cell
    have c2 := h2.cell
    clear hseq bc br hxs
    have HB : Hid (∀ o', Below w.heap.size w (V.putObj D o')) := fun o' => h3.trans (belowK_b (w := w) (Nat.le_refl _) V D _ _ (by omega) hdf rfl rfl)
    obtain ⟨L, hL⟩ : ∃ L, (walkT o ks 0 s).foldl stLo 4611686018427387904 = L := ⟨_, rfl⟩
    obtain ⟨M, hM⟩ : ∃ M, (walkT o ks 0 s).foldl stHi 0 = M := ⟨_, rfl⟩
    rw [hL] at c1
    rw [hM] at c2
    have HL := Lib.hid hL
    have HM := Lib.hid hM
    have H3 := Lib.hid h3
    clear hL hM h1 h2 h3
    gi_wp2
    refine wpIn_wide.2 ?_
    have c1d : V.drew.cell? ⟨w.heap.size + 1, 0, none⟩ = some (.int .i64 L) := c1
    have c2d : V.drew.cell? ⟨w.heap.size + 2, 0, none⟩ = some (.int .i64 M) := c2
    go_quiet (fail)
    have hdf2 : (V.drewN nq).heap[D]? = some (.deferred (some [])) := ((below_drewN (Below.refl V.heap.size V) nq).block D (Array.getElem?_eq_some_iff.1 hdf).1).trans hdf
    have HB2 : Hid (∀ o', Below w.heap.size w ((V.drewN nq).putObj D o')) := fun o' => (below_drewN H3.out nq).trans (belowK_b (w := w) (Nat.le_refl _) (V.drewN nq) D _ _ (by omega) hdf2 rfl rfl)
    clear HB H3 c1 c2 c1d c2d hdf
    generalize V.drewN nq = V5 at *
    gi_wp2
    refine ⟨by simp, .inl ⟨_, _, rfl, run_takeDeferred hdf2, ?_⟩⟩
    refine ⟨_, results_tmp2 rfl _ _ _, ?_, HB2.out _⟩
    rw [HL.out, HM.out]
    rfl
  case stop =>
    rintro D cd q V hD hq h
    exact h.elim
theorem walk_len : ∀ (f : Fo) (ts : List Tr) (d s : Int), trees f = some ts → ∀ k ∈ walkK f d s, k.2.1 = 0 ∨ k.2.1 = 2
  | .nil, _, _, _, _, k, hk => by simp [walkK] at hk
  | .cons n ks rest, ts, d, s, h, k, hk => by
    simp only [trees] at h
    obtain ⟨l, hl, h⟩ := Option.bind_eq_some_iff.1 h
    obtain ⟨t, ht, h⟩ := Option.bind_eq_some_iff.1 h
    obtain ⟨r, hr, rfl⟩ := Option.map_eq_some_iff.1 h
    have hlen := trees_len ks l hl
    simp only [walkK, List.mem_cons, List.mem_append] at hk
    rcases hk with rfl | hk | hk
    · match l, ht with
      | [], _ => exact .inl hlen.symm
      | [_, _], _ => exact .inr hlen.symm
      | [_], ht => simp [one] at ht
      | _ :: _ :: _ :: _, ht => simp [one] at ht
    · exact walk_len ks l _ _ hl k hk
    · exact walk_len rest r _ _ hr k hk
theorem ends_any (t : Tr) (s : Int) (P : Nat → Prop) (v : Value) (w : World) (h : InP P w t v) (h0 : 0 ≤ s) (h1 : s ≤ 4611686018427387904) (hok : t.okc (4611686018427387904 - s) = true) :
    Calls Tryd.prog 38 #[v, .int .i64 s] w fun e w' => e = .returned (.tuple #[.int .i64 (s + low t), .int .i64 (s + high t)]) ∧ Below w.heap.size w w' := by
  have h2 : InP (Lt w.heap.size) w t v := by
    have : ∀ {t : Tr} {v : Value}, InP P w t v → InP (Lt w.heap.size) w t v := by
      intro t
      induction t with
      | leaf n => exact fun h => h
      | node n x y ihx ihy =>
        rintro v ⟨b, off, c, e, hb, ⟨o1, A1, n1, c1, k1, k2, k3⟩, ⟨o2, A2, n2, c2, g1, g2, g3⟩⟩
        exact ⟨b, off, c, e, World.block_lt_of_cell? w _ k1, ⟨o1, A1, n1, c1, k1, k2, ihx k3⟩, ⟨o2, A2, n2, c2, g1, g2, ihy g3⟩⟩
    exact this h
  obtain ⟨ks, A, c, rfl, hk, ht⟩ := unT h2
  have hw := walkT_ends 0 s ht h0 h1 hok
  obtain ⟨l, hl, ho⟩ := Option.bind_eq_some_iff.1 ht
  refine (ends_walk t.N ks A c s (Lt w.heap.size) w hk (fun _ h => h) fun k hk => ?_).mono fun e w' h => ⟨?_, h.2⟩
  · exact walk_len (.cons t.N ks .nil) [t] 0 s (by simp [trees, hl, ho]) k (by rw [walkK_cons]; simp [hk])
  · rw [h.1, ← hw.1, ← hw.2]; rfl
end Go.Proofs.YtflghlmikpfnpaaDoor.E
