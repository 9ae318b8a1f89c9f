/-
  The program's only: whether all leafs of a tree are like one.
-/
import Derived.Test.YtkpefelakhbkhaaIAns
namespace Go.Proofs.Ytkpefelakhbkhaa.I
open Go.RowKit Go.Shelf
attribute [local go_sem] Oper.semAt_some

def leafOk (b : Bool) (k : Bool × Nat × Int) : Bool := !(decide (k.2.1 = 0)) || (k.1 == b)

set_option maxRecDepth 100000 in
set_option maxHeartbeats 4000000 in
theorem only_walk (o : Bool) (ks : Fo) (A : Option Addr) (c : Nat) (b : Bool) (w : World) (hk : Kd w w.heap.size ks A) (hq : ∀ k ∈ walkT o ks 0, k.2.1 = 0 ∨ k.2.1 = 2) :
    Calls Try.prog 71 #[tv o A ks.len c, .bool b] w fun e w' => e = .returned (.bool ((walkT o ks 0).all (leafOk b))) ∧ Below w.heap.size w w' := by
  refine (callsIn_wide (n := 3)).1 ?_
  unfold tv
  refine callsIn_of_wp_marks Try.func71 rfl trivial ?_ rfl
  simp only [Try.ntmps71, List.size_toArray, List.length_cons, List.length_nil, Nat.reduceAdd, Nat.reduceSub, Array.replicate_succ, Array.replicate_zero, List.push_toArray, List.append_toArray, List.nil_append, List.cons_append]
  have HK := Lib.hid hk
  have HQ := Lib.hid hq
  clear hk hq
  gi_wp2_with (refine ⟨trivial, ?_⟩; gi_at_call 41; refine (nodes_in _ o A ks.len c _ _).mono ?_; rintro e w' ⟨rfl, rfl⟩)
  obtain ⟨W0, hW0⟩ : ∃ W0, ((((w.alloc (.cells #[.bool o, .slice A ks.len c] 24)).alloc (.cells #[.bool b] 4)).alloc (.cells #[.bool false] 4)).alloc (.cells #[.bool o, .slice A ks.len c] 24)).alloc (.cells #[.int .i64 0] 3) = W0 := ⟨_, rfl⟩
  have hs0 : W0.heap.size = w.heap.size + 5 := by rw [← hW0]; simp
  have hb0 : Below w.heap.size w W0 := by rw [← hW0]; exact (four_boxes w _ _ _ _).alloc (by simp; omega) _
  have a0 : W0.cell? ⟨w.heap.size + 3, 0, none⟩ = some (.bool o) := by rw [← hW0]; simp [go_sem]
  have a1 : W0.cell? ⟨w.heap.size + 3, 1, none⟩ = some (.slice A ks.len c) := by rw [← hW0]; simp [go_sem]
  have a2 : W0.cell? ⟨w.heap.size + 4, 0, none⟩ = some (.int .i64 0) := by rw [← hW0]; simp [go_sem]
  have bc : Boxed W0 (w.heap.size + 1) 4 (.bool b) := by
    rw [← hW0]
    have := Boxed.new (w.alloc (.cells #[.bool o, .slice A ks.len c] 24)) 4 (.bool b)
    rw [World.size_alloc] at this
    exact ((this.alloc _).alloc _).alloc _
  have br : Boxed W0 (w.heap.size + 2) 4 (.bool false) := by
    rw [← hW0]
    have := Boxed.new ((w.alloc (.cells #[.bool o, .slice A ks.len c] 24)).alloc (.cells #[.bool b] 4)) 4 (.bool false)
    simp only [World.size_alloc] at this
    exact (this.alloc _).alloc _
  simp only [Nat.add_assoc, Nat.reduceAdd]
  rw [hW0]
  have hseq := nodes_seq (ks.size + 1) o ks A c 0 (w.heap.size + 3) (w.heap.size + 4) w.heap.size (fun k => k = w.heap.size + 2) (fun x => x.n = 0 ∨ x.n = 2) (fun x => x.n = 0 ∨ x.n = 2) W0 (Nat.lt_succ_self _) (fun _ h => h) (fun x h => HQ.out _ h)
    (HK.out.below hb0) (by omega) (by omega) (by omega) a0 a1 a2 (by omega) (by omega) (fun k h => by omega)
  clear a0 a1 a2 hW0 HK HQ
  refine range_own (gf := 70) (lb := #[.pointer (some ⟨w.heap.size + 3, 0, none⟩), .pointer (some ⟨w.heap.size + 4, 0, none⟩)]) rfl (enters_of Try.func70 (by kernel_rfl) rfl) hseq (fun k h => by omega) (Below.refl _ _) (fun _ => rfl)
    (fun q V => Boxed V (w.heap.size + 1) 4 (.bool b) ∧ Boxed V (w.heap.size + 2) 4 (.bool false) ∧ Below w.heap.size w V ∧ (q.map It.key).all (leafOk b) = true)
    (fun cd q V => cd = .ret ∧ Boxed V (w.heap.size + 2) 4 (.bool false) ∧ Below w.heap.size w V ∧ (q.map It.key).all (leafOk b) = false)
    (OwnFrom.and ((boxed_own _ _ _).from _) (OwnFrom.and ((boxed_own _ _ _).from _) (OwnFrom.and (ownFrom_below (Nat.le_refl _) (by omega)) (ownFrom_pure _ _))))
    (fun cd => OwnFrom.and (ownFrom_pure _ _) (OwnFrom.and ((boxed_own _ _ _).from _) (OwnFrom.and (ownFrom_below (Nat.le_refl _) (by omega)) (ownFrom_pure _ _))))
    ⟨bc, br, hb0, rfl⟩
    (fun x a' V => ∃ Bx, w.heap.size + 2 < Bx ∧ V.cell? ⟨Bx, 0, none⟩ = some (.bool x.o) ∧ V.cell? ⟨Bx, 1, none⟩ = some (.slice x.A x.n x.c) ∧ a' = { tmps := #[.agg #[.bool o, .slice A ks.len c], .bool b, .pointer (some ⟨w.heap.size, 0, none⟩), .pointer (some ⟨w.heap.size + 1, 0, none⟩), .pointer (some ⟨w.heap.size + 2, 0, none⟩), .pointer (some ⟨Bx, 0, none⟩), .agg #[.bool o, .slice A ks.len c], .func (.func 70) #[] #[.pointer (some ⟨w.heap.size + 3, 0, none⟩), .pointer (some ⟨w.heap.size + 4, 0, none⟩)], tv x.o x.A x.n x.c, .int .i64 x.d, undef, undef, undef, undef, undef, undef, undef, undef], defers := [] })
    (fun x a' _ V V' row hs hg hr => by
      obtain ⟨Bx, hx, b0, b1, e⟩ := hs
      exact ⟨Bx, hx, cell_kept b0 hg (fun r e => (hr r e).2), cell_kept b1 hg (fun r e => (hr r e).2), e⟩) ?assign ?body ?done ?stop
  case assign =>
    rintro l' q x V K hsv ⟨h1, h2, h3, h4⟩ hK
    unfold It.enc tv
    gi_wp2
    exact hK _ _ ((Kept.refl _ V).alloc _) ⟨h1.alloc _, h2.alloc _, h3.alloc h3.size _, h4⟩ ⟨V.heap.size, h2.lt, by simp [go_sem], by simp [go_sem], rfl⟩
  case body =>
    rintro l' q x a' V hsv ⟨h1, h2, h3, h4⟩ ⟨Bx, hBx, b0, b1, rfl⟩ hqx
    have HG : Hid (((q ++ [x]).map It.key).all (leafOk b) = (!(decide (x.n = 0)) || (x.o == b))) := by
      show _ = _
      rw [List.map_append, List.all_append, h4]
      simp [leafOk, It.key]
    have hBl : Bx < V.heap.size := by
      obtain ⟨ob, ho, _⟩ := cells_of_cell b0
      exact (Array.getElem?_eq_some_iff.1 ho).1
    have hcall := (callsIn_wide (n := 2)).2 (pleaf_any x.o x.A x.n x.c V)
    unfold tv at hcall ⊢
    clear hseq bc br
    by_cases hn : x.n = 0
    · rw [decide_eq_true hn] at hcall HG
      cases hob : (x.o == b) with
      | true =>
        rw [hob] at HG
        have hob2 : (x.o != b) = false := by rw [bne, hob]; rfl
        clear hn
        gi_wp2_with (refine ⟨trivial, ?_⟩; gi_at_call 62; refine (CallsIn.inRound l' hcall).mono ?_; clear hcall; rintro e V2 ⟨rfl, hb2⟩; have g1 := boxed_below h1 hb2 h1.lt; have g2 := boxed_below h2 hb2 h2.lt; have g3 := g2.cell; have g4 := g2.frozen; have g1c := g1.cell; have g5 := (Kept.refl (fun k => k = w.heap.size + 2) V).trans (Kept.below hb2 (Nat.le_refl _)); have g7 := h3.trans (hb2.mono h3.size); have g8 := (hb2.cell (p := ⟨Bx, 0, none⟩) hBl).trans b0; clear hb2 b0 b1 h1 h2 h3)
        exact ⟨g5, hqx, g1, g2, g7, by rw [HG.out]; rfl⟩
      | false =>
        rw [hob] at HG
        have hob2 : (x.o != b) = true := by rw [bne, hob]; rfl
        clear hn
        gi_wp2_with (refine ⟨trivial, ?_⟩; gi_at_call 62; refine (CallsIn.inRound l' hcall).mono ?_; clear hcall; rintro e V2 ⟨rfl, hb2⟩; have g1 := boxed_below h1 hb2 h1.lt; have g2 := boxed_below h2 hb2 h2.lt; have g3 := g2.cell; have g4 := g2.frozen; have g1c := g1.cell; have g5 := (Kept.refl (fun k => k = w.heap.size + 2) V).trans (Kept.below hb2 (Nat.le_refl _)); have g7 := h3.trans (hb2.mono h3.size); have g8 := (hb2.cell (p := ⟨Bx, 0, none⟩) hBl).trans b0; clear hb2 b0 b1 h1 h2 h3)
        exact ⟨g5.setCell (p := ⟨w.heap.size + 2, 0, none⟩) rfl _, rfl, g2.set _, g7.setCell (p := ⟨w.heap.size + 2, 0, none⟩) (by show w.heap.size ≤ w.heap.size + 2; omega) _, by rw [HG.out]; rfl⟩
    · rw [decide_eq_false hn] at hcall HG
      clear hn
      gi_wp2_with (refine ⟨trivial, ?_⟩; gi_at_call 62; refine (CallsIn.inRound l' hcall).mono ?_; clear hcall; rintro e V2 ⟨rfl, hb2⟩; have g1 := boxed_below h1 hb2 h1.lt; have g2 := boxed_below h2 hb2 h2.lt; have g3 := g2.cell; have g4 := g2.frozen; have g1c := g1.cell; have g5 := (Kept.refl (fun k => k = w.heap.size + 2) V).trans (Kept.below hb2 (Nat.le_refl _)); have g7 := h3.trans (hb2.mono h3.size); have g8 := (hb2.cell (p := ⟨Bx, 0, none⟩) hBl).trans b0; clear hb2 b0 b1 h1 h2 h3)
      exact ⟨g5, hqx, g1, g2, g7, by rw [HG.out]; rfl⟩
  case done =>
    rintro D xs V hD hxs ⟨h1, h2, h3, h4⟩ hdf
    have c2 := h2.cell
    have f2 := h2.frozen
    rw [hxs] at h4
    clear hseq bc br
    have hV : Boxed (V.setCell ⟨w.heap.size + 2, 0, none⟩ (.bool true)) (w.heap.size + 2) 4 (.bool true) := h2.set _
    have hdf2 : (V.setCell ⟨w.heap.size + 2, 0, none⟩ (.bool true)).heap[D]? = some (.deferred (some [])) := (Below.heap_setCell V ⟨w.heap.size + 2, 0, none⟩ _ D (by show D ≠ w.heap.size + 2; omega)).trans hdf
    have hB2 : Below w.heap.size w (V.setCell ⟨w.heap.size + 2, 0, none⟩ (.bool true)) := h3.setCell (p := ⟨w.heap.size + 2, 0, none⟩) (by show w.heap.size ≤ w.heap.size + 2; omega) _
    have HB : Hid (∀ o', Below w.heap.size w ((V.setCell ⟨w.heap.size + 2, 0, none⟩ (.bool true)).putObj D o')) := fun o' => hB2.trans (belowK_b (w := w) (Nat.le_refl _) _ D _ _ (by omega) hdf2 rfl rfl)
    have HC : Hid (∀ o', ((V.setCell ⟨w.heap.size + 2, 0, none⟩ (.bool true)).putObj D o').cell? ⟨w.heap.size + 2, 0, none⟩ = some (.bool true)) := fun o' => cell_kept hV.cell (grownBy_putObj' _ D _) (fun r e => by cases e; exact ⟨_, hdf2, rfl⟩)
    have HDF := Lib.hid hdf2
    clear hV hdf2 hB2 h1 h2 h3 hdf
    gi_wp2
    refine ⟨by simp, .inl ⟨_, _, rfl, run_takeDeferred HDF.out, ?_⟩⟩
    refine ⟨.bool true, ?_, by rw [h4], HB.out _⟩
    have hc := HC.out (.deferred none)
    simp [results, Try.f71, go_sem, hc]
  case stop =>
    rintro D cd q V hD hq ⟨rfl, h2, h3, h4⟩ hdf
    have HF : Hid ((walkT o ks 0).all (leafOk b) = false) := by
      show _ = _
      obtain ⟨r, hr⟩ := hq
      rw [← hr, List.all_append, h4, Bool.false_and]
    clear hseq bc br
    have HB : Hid (∀ o', Below w.heap.size w (V.putObj D o')) := fun o' => h3.trans (belowK_b (w := w) (Nat.le_refl _) V D _ _ (by omega) hdf rfl rfl)
    have HC : Hid (∀ o', (V.putObj D o').cell? ⟨w.heap.size + 2, 0, none⟩ = some (.bool false)) := fun o' => cell_kept h2.cell (grownBy_putObj' _ D _) (fun r e => by cases e; exact ⟨_, hdf, rfl⟩)
    clear h4 hq h2 h3
    gi_wp2
    refine ⟨by simp, .inl ⟨_, _, rfl, run_takeDeferred hdf, ?_⟩⟩
    refine ⟨.bool false, ?_, by rw [HF.out], HB.out _⟩
    have hc := HC.out (.deferred none)
    simp [results, Try.f71, go_sem, hc]

/-- All leafs are b. -/
def onlyT (b : Bool) : Tr → Bool
  | .leaf o => o == b
  | .node x y => onlyT b x && onlyT b y
theorem onlyT_norm (b : Bool) : ∀ t : Tr, onlyT b t = eqT t.norm (.leaf b)
  | .leaf o => by simp [onlyT, Tr.norm, eqT]
  | .node x y => by
    rw [onlyT, onlyT_norm b x, onlyT_norm b y, Bool.eq_iff_iff, Bool.and_eq_true_iff, eqT_iff, eqT_iff, eqT_iff]
    constructor
    · rintro ⟨h1, h2⟩; rw [Tr.norm, h1, h2, Tr.mk2_same]
    · intro h; rw [Tr.norm] at h; exact Tr.mk2_leaf h
theorem one_only (b o : Bool) (ts : List Tr) (t : Tr) (h : one o ts = some t) : onlyT b t = ((!(decide (ts.length = 0)) || (o == b)) && ts.all (onlyT b)) := by
  match ts, h with
  | [], h => simp [one] at h; subst h; simp [onlyT]
  | [x], h => simp [one] at h
  | [x, y], h =>
    cases o
    · simp [one] at h; subst h; simp [onlyT]
    · simp [one] at h
  | x :: y :: z :: r, h => simp [one] at h
theorem one_len (o : Bool) (ts : List Tr) (t : Tr) (h : one o ts = some t) : ts.length = 0 ∨ ts.length = 2 := by
  match ts, h with
  | [], h => exact .inl rfl
  | [x], h => simp [one] at h
  | [x, y], h => exact .inr rfl
  | x :: y :: z :: r, h => simp [one] at h
theorem walkK_only (b : Bool) : ∀ (f : Fo) (ts : List Tr) (d : Int), trees f = some ts → (walkK f d).all (leafOk b) = ts.all (onlyT b) ∧ ∀ k ∈ walkK f d, k.2.1 = 0 ∨ k.2.1 = 2
  | .nil, ts, d, h => by simp [trees] at h; subst h; exact ⟨rfl, fun k hk => by simp [walkK] at hk⟩
  | .cons o ks rest, ts, d, h => by
    simp only [trees] at h
    cases hk : trees ks with
    | none => rw [hk] at h; simp at h
    | some k =>
      rw [hk] at h
      simp only [Option.bind_some] at h
      cases ho : one o k with
      | none => rw [ho] at h; simp at h
      | some t =>
        rw [ho] at h
        simp only [Option.bind_some] at h
        cases hr : trees rest with
        | none => rw [hr] at h; simp at h
        | some ts' =>
          rw [hr] at h
          simp at h
          subst h
          obtain ⟨i1, j1⟩ := walkK_only b ks k (nx d) hk
          obtain ⟨i2, j2⟩ := walkK_only b rest ts' d hr
          have i3 := one_only b o k t ho
          have i4 := one_len o k t ho
          have i5 := trees_len ks k hk
          refine ⟨?_, ?_⟩
          · simp only [walkK, List.all_cons, List.all_append, i1, i2, i3, leafOk, i5, Bool.and_assoc]
          · intro q hq
            simp only [walkK, List.mem_cons, List.mem_append] at hq
            rcases hq with rfl | hq | hq
            · simp only; rw [← i5]; exact i4
            · exact j1 q hq
            · exact j2 q hq
theorem only_any (t : Tr) (v : Value) (b : Bool) (w : World) (h : InT w w.heap.size t v) : Calls Try.prog 71 #[v, .bool b] w fun e w' => e = .returned (.bool (onlyT b t)) ∧ Below w.heap.size w w' := by
  obtain ⟨o, ks, A, c, rfl, hk, ht⟩ := unT h
  cases hk2 : trees ks with
  | none => rw [hk2] at ht; simp at ht
  | some k =>
    rw [hk2] at ht
    simp only [Option.bind_some] at ht
    obtain ⟨i1, j1⟩ := walkK_only b ks k (nx 0) hk2
    have i3 := one_only b o k t ht
    have i4 := one_len o k t ht
    have i5 := trees_len ks k hk2
    have e : (walkT o ks 0).all (leafOk b) = onlyT b t := by
      unfold walkT
      rw [List.all_cons, i1, i3]
      simp only [leafOk, i5]
    rw [← e]
    refine only_walk o ks A c b w hk fun q hq => ?_
    unfold walkT at hq
    rcases List.mem_cons.1 hq with rfl | hq
    · simp only; rw [← i5]; exact i4
    · exact j1 q hq
end Go.Proofs.Ytkpefelakhbkhaa.I
