/-
  The reference's Sum.
-/
import Derived.Test.YtkpefelakhbkhaaISMath
namespace Go.Proofs.Ytkpefelakhbkhaa.I
open Go.RowKit

/-- A right tree in memory as trees that came in are. -/
theorem unT {w : World} {B : Nat} : ∀ {t : Tr} {v : Value}, InT w B t v → ∃ (o : Bool) (ks : Fo) (A : Option Addr) (c : Nat), v = tv o A ks.len c ∧ Kd w B ks A ∧ (trees ks).bind (one o) = some t
  | .leaf o, _, ⟨A, c, rfl⟩ => ⟨o, .nil, A, c, rfl, .inl rfl, rfl⟩
  | .node x y, _, ⟨b, off, c, rfl, hb, ⟨o1, A1, n1, c1, h1, h2, h3⟩, ⟨o2, A2, n2, c2, g1, g2, g3⟩⟩ => by
    obtain ⟨p1, k1, B1, d1, e1, kd1, t1⟩ := unT h3
    obtain ⟨p2, k2, B2, d2, e2, kd2, t2⟩ := unT g3
    unfold tv at e1 e2
    simp only [Value.agg.injEq, Array.mk.injEq, List.cons.injEq, Value.bool.injEq, Value.slice.injEq, and_true] at e1 e2
    obtain ⟨rfl, rfl, rfl, rfl⟩ := e1
    obtain ⟨rfl, rfl, rfl, rfl⟩ := e2
    refine ⟨false, .cons o1 k1 (.cons o2 k2 .nil), _, c, rfl, .inr ⟨b, off, rfl, hb, ⟨A1, c1, h1, h2, kd1⟩, ⟨A2, c2, g1, g2, kd2⟩, trivial⟩, ?_⟩
    obtain ⟨l1, hl1, ht1⟩ := Option.bind_eq_some_iff.1 t1
    obtain ⟨l2, hl2, ht2⟩ := Option.bind_eq_some_iff.1 t2
    have e2 : trees (.cons o2 k2 .nil) = some [y] := by simp only [trees, hl2, Option.bind_some, ht2, Option.map_some]
    have e1 : trees (.cons o1 k1 (.cons o2 k2 .nil)) = some [x, y] := by
      have e : trees (.cons o1 k1 (.cons o2 k2 .nil)) = (trees k1).bind fun k => (one o1 k).bind fun t => (trees (.cons o2 k2 .nil)).map (t :: ·) := rfl
      rw [e, e2, hl1, Option.bind_some, ht1, Option.bind_some, Option.map_some]
    rw [e1]
    rfl
/-- Right, of a right tree's shape in memory. -/
theorem rRight_tr (t : Tr) (v : Value) (w : World) (h : InT w w.heap.size t v) : Calls Try.prog 18 #[v] w fun e w' => e = .returned (.bool (decide (t.depth ≤ 32) && decide (t.nodes ≤ 2047))) ∧ Below w.heap.size w w' := by
  obtain ⟨o, ks, A, c, rfl, hk, ht⟩ := unT h
  refine (rRight_any o ks A c w hk).mono fun e w' ⟨he, hb⟩ => ⟨?_, hb⟩
  rw [he]
  unfold treeOf
  rw [ht]
  by_cases hc : (decide (t.depth ≤ 32) && decide (t.nodes ≤ 2047)) = true
  · simp only [Option.filter, hc, if_true, Option.isSome_some]
  · simp only [Bool.not_eq_true] at hc
    simp [Option.filter, hc]
/-- append(out, x...). -/
theorem GrR.app {w : World} {base c : Nat} {A : Option Addr} {l : List (Nat × Nat)} (h : GrR w base A c l) (hA : A ≠ none) (A2 : Option Addr) (d : Nat) (x : List (Nat × Nat)) (base2 : Nat) (h2 : GrR w base2 A2 d x) (ty : TypeId) (hb : l.length + x.length ≤ 10000000) (hbase : base ≤ w.heap.size) :
    ∃ A' c' w', (Builtin.append_ #[51, 51] ty #[.slice A l.length c, .slice A2 x.length d]).run Try.prog w = .ok (.slice A' (l.length + x.length) c') w' ∧ A' ≠ none ∧ GrR w' base A' c' (l ++ x) ∧ Below base w w' := by
  obtain ⟨i0, hi, hz0, hz1, hz2⟩ := info_parts info52
  rcases h2.cases with ⟨rfl, rfl, rfl⟩ | ⟨g, cur, rfl, hgb, hc, h3, h4, h5, h6⟩
  · refine ⟨A, c, w, ?_, hA, by rw [List.append_nil]; exact h, Below.refl _ _⟩
    rcases h.cases with ⟨rfl, _, _⟩ | ⟨g', cur', rfl, _, _, k1, _⟩
    · exact absurd rfl hA
    · simp [Builtin.append_, run_underlying Try.underlying51, sizeOf, typeInfo, hi, Builtin.lenOf, Builtin.firstCells, k1, storeCells]
  · have hcell : ∀ j u, (cellsR x)[j]? = some u → w.cell? ((⟨g, 0, none⟩ : Addr).add j) = some u := by
      intro j u hu
      have e : (⟨g, 0, none⟩ : Addr).add j = ⟨g, j, none⟩ := by
        unfold Addr.add; split
        · rename_i h; subst h; rfl
        · simp
      have hj : j < x.length * 2 := by have := (List.getElem?_eq_some_iff.1 hu).1; rwa [cellsR_length] at this
      rw [e, cell_of_row w g j cur 62 (0, 0) hc, ← hu, ← h6, List.getElem?_take, if_pos hj]; simp
    obtain ⟨v', w', hrun, ho, hg, hn⟩ := run_append_own_wide (P := Try.prog) w base 51 ty 62 i0 (.agg #[.int .u64 0, .int .u64 0]) 2 16 Try.underlying51 hi hz0 hz1 hz2 rfl (by decide) _ _ _ h _ x.length d (cellsR x) (by rw [cellsR_length]) hcell (oneCell_cellsR x) (by unfold maxLen; omega) (by omega) hbase
    have hB : Below base w w' := (Below.refl _ w).grown hg hbase (fun k e => (h.own k e).1)
    have e2 : cellsR (l ++ x) = cellsR l ++ cellsR x := by simp [cellsR]
    have e3 : (l ++ x).length = l.length + x.length := by simp
    rcases ho.2 with ⟨e, h0⟩ | ⟨g', cap', cur', e, _⟩
    · have := (hn.1 e).1
      injection this with this _ _
      exact absurd this hA
    · rw [e] at hrun ho
      exact ⟨_, _, w', hrun, by simp, by unfold GrR; rw [e2, e3]; exact ho, hB⟩
theorem make_ranges (L : Nat) (hL : L ≤ 10000000) (w : World) : ∃ W, (Instr.makeSlice 51 (.int .i64 0) (.int .i64 (L : Int))).run Try.prog w = .ok (.slice (some ⟨w.heap.size, 0, none⟩) 0 L) W ∧ GrR W w.heap.size (some ⟨w.heap.size, 0, none⟩) L [] ∧ Below w.heap.size w W := by
  obtain ⟨i0, hi, hz0, hz1, hz2⟩ := info_parts info52
  have h := run_make (P := Try.prog) w 51 62 i0 (.agg #[.int .u64 0, .int .u64 0]) Try.underlying51 hi hz0 .i64 .i64 0 (L : Int) (by omega) (by omega) (by rw [hz2]; omega) (by omega)
  refine ⟨_, h.trans (by rw [show ((L : Int)).toNat = L by omega]; rfl), ?_, (Below.refl _ w).alloc (Nat.le_refl _) _⟩
  refine ⟨by simp [cellsR], .inr ⟨w.heap.size, L, _, rfl, Nat.le_refl _, heap_alloc_new w _, Nat.zero_le _, by unfold maxLen; omega, ?_, by simp [cellsR]⟩⟩
  rw [size_madeCells, hz1]
/-- What Sum answers. -/
def SumR (a b : Option Tr) (w : World) (e : Ending) (w' : World) : Prop :=
  ((∃ s t v u, a = some s ∧ b = some t ∧ meetL (ranges s 0 4294967296) (ranges t 0 4294967296) = false ∧ u = Tr.build (mu (ranges s 0 4294967296 ++ ranges t 0 4294967296)) 32 0 ∧ (u.depth ≤ 32 ∧ u.nodes ≤ 2047) ∧ e = .returned (.tuple #[v, .int .i64 0]) ∧ InT w' w'.heap.size u v) ∨
    (∃ s t, a = some s ∧ b = some t ∧ meetL (ranges s 0 4294967296) (ranges t 0 4294967296) = true ∧ e = .returned (.tuple #[tv false none 0 0, .int .i64 42])) ∨
    (∃ s t u, a = some s ∧ b = some t ∧ meetL (ranges s 0 4294967296) (ranges t 0 4294967296) = false ∧ u = Tr.build (mu (ranges s 0 4294967296 ++ ranges t 0 4294967296)) 32 0 ∧ ¬ (u.depth ≤ 32 ∧ u.nodes ≤ 2047) ∧ e = .returned (.tuple #[tv false none 0 0, .int .i64 2])) ∨
    ((a = none ∨ b = none) ∧ e = .returned (.tuple #[tv false none 0 0, .int .i64 2]))) ∧ Below w.heap.size w w'
/-- The first boxes of Sum: the two trees, the result. -/
def SumW (w : World) (o1 o2 : Bool) (A1 A2 : Option Addr) (n1 n2 c1 c2 : Nat) : World := ((w.alloc (.cells #[.bool o1, .slice A1 n1 c1] 24)).alloc (.cells #[.bool o2, .slice A2 n2 c2] 24)).alloc (.cells #[.bool false, .slice none 0 0] 24)
structure SumB (w : World) (o1 o2 : Bool) (A1 A2 : Option Addr) (n1 n2 c1 c2 : Nat) (W : World) : Prop where
  a0 : W.cell? ⟨w.heap.size, 0, none⟩ = some (.bool o1)
  a1 : W.cell? ⟨w.heap.size, 1, none⟩ = some (.slice A1 n1 c1)
  b0 : W.cell? ⟨w.heap.size + 1, 0, none⟩ = some (.bool o2)
  b1 : W.cell? ⟨w.heap.size + 1, 1, none⟩ = some (.slice A2 n2 c2)
  box : Box0 W (w.heap.size + 1 + 1)
  bel : Below w.heap.size w W
  big : w.heap.size + 3 ≤ W.heap.size
theorem SumB.start (w : World) (o1 o2 : Bool) (A1 A2 : Option Addr) (n1 n2 c1 c2 : Nat) : SumB w o1 o2 A1 A2 n1 n2 c1 c2 (SumW w o1 o2 A1 A2 n1 n2 c1 c2) := by
  unfold SumW
  refine ⟨by simp [go_sem], by simp [go_sem], by simp [go_sem], by simp [go_sem], ?_, three_boxes w _ _ _, by simp⟩
  have := heap_alloc_new ((w.alloc (.cells #[.bool o1, .slice A1 n1 c1] 24)).alloc (.cells #[.bool o2, .slice A2 n2 c2] 24)) (.cells #[.bool false, .slice none 0 0] 24)
  rw [World.size_alloc, World.size_alloc] at this
  exact this
theorem SumB.next {w : World} {o1 o2 : Bool} {A1 A2 : Option Addr} {n1 n2 c1 c2 : Nat} {W W' : World} (h : SumB w o1 o2 A1 A2 n1 n2 c1 c2 W) (hb : Below W.heap.size W W') : SumB w o1 o2 A1 A2 n1 n2 c1 c2 W' := by
  have hbig := h.big
  exact ⟨(hb.cell (by show w.heap.size < _; omega)).trans h.a0, (hb.cell (by show w.heap.size < _; omega)).trans h.a1, (hb.cell (by show w.heap.size + 1 < _; omega)).trans h.b0, (hb.cell (by show w.heap.size + 1 < _; omega)).trans h.b1, h.box.below hb (by omega), h.bel.trans (hb.mono (by omega)), Nat.le_trans h.big hb.size⟩
set_option maxRecDepth 100000 in
set_option maxHeartbeats 1600000 in
theorem rsum_any (o1 : Bool) (k1 : Fo) (A1 : Option Addr) (c1 : Nat) (o2 : Bool) (k2 : Fo) (A2 : Option Addr) (c2 : Nat) (w : World) (h1 : Kd w w.heap.size k1 A1) (h2 : Kd w w.heap.size k2 A2) :
    Calls Try.prog 21 #[tv o1 A1 k1.len c1, tv o2 A2 k2.len c2] w (SumR (treeOf o1 k1) (treeOf o2 k2) w) := by
  have HS0 := Lib.hid (SumB.start w o1 o2 A1 A2 k1.len k2.len c1 c2)
  have hr1 := fun W h => rRight_any o1 k1 A1 c1 W h
  have hr2 := fun W h => rRight_any o2 k2 A2 c2 W h
  have H1 := Lib.hid h1
  have H2 := Lib.hid h2
  have HI1 : Hid (∀ t, treeOf o1 k1 = some t → InT w w.heap.size t (tv o1 A1 k1.len c1) ∧ t.depth ≤ 32 ∧ t.nodes ≤ 2047) := fun t ht => in_treeOf ht h1
  have HI2 : Hid (∀ t, treeOf o2 k2 = some t → InT w w.heap.size t (tv o2 A2 k2.len c2) ∧ t.depth ≤ 32 ∧ t.nodes ≤ 2047) := fun t ht => in_treeOf ht h2
  unfold tv at hr1 hr2 HI1 HI2 ⊢
  obtain ⟨n1, hn1⟩ : ∃ n, k1.len = n := ⟨_, rfl⟩
  obtain ⟨n2, hn2⟩ : ∃ n, k2.len = n := ⟨_, rfl⟩
  obtain ⟨T1, hT1⟩ : ∃ T, treeOf o1 k1 = T := ⟨_, rfl⟩
  obtain ⟨T2, hT2⟩ : ∃ T, treeOf o2 k2 = T := ⟨_, rfl⟩
  simp only [hn1, hn2, hT1, hT2] at hr1 hr2 HS0 HI1 HI2 ⊢
  clear h1 h2 hn1 hn2 hT1 hT2
  go_enter Try.func21, Try.ntmps21
  go_wp2_with fail
  refine (hr1 _ (H1.out.up HS0.out.bel)).mono ?_
  rintro e w1 ⟨rfl, hb1⟩
  have HS1 := Lib.hid (HS0.out.next hb1)
  have m2 := HS1.out.b0
  have m3 := HS1.out.b1
  clear hb1 hr1
  go_wp2_with fail
  refine (hr2 _ (H2.out.up HS1.out.bel)).mono ?_
  rintro e w2 ⟨rfl, hb2⟩
  have HS2 := Lib.hid (HS1.out.next hb2)
  clear hb2 hr2 m2 m3
  by_cases hbad : T1 = none ∨ T2 = none
  · obtain ⟨⟨c0, c1'⟩, f0, f1⟩ := HS2.out.box.facts
    have HFIN : Hid (∀ u1 u2, Below w.heap.size w ((w2.setCell ⟨w.heap.size + 1 + 1, 0, none⟩ u1).setCell ⟨w.heap.size + 1 + 1, 1, none⟩ u2)) := fun u1 u2 => (HS2.out.bel.setCell (p := ⟨w.heap.size + 1 + 1, 0, none⟩) (by show _ ≤ w.heap.size + 1 + 1; omega) _).setCell (p := ⟨w.heap.size + 1 + 1, 1, none⟩) (by show _ ≤ w.heap.size + 1 + 1; omega) _
    cases T1 with
    | none =>
      clear hbad
      go_wp2
      refine bodyPost_ret (v := .tuple #[tv false none 0 0, .int .i64 2]) (by simp [results, Try.f21, go_sem, tv, c0, c1']) rfl ?_
      exact ⟨.inr (.inr (.inr ⟨.inl rfl, rfl⟩)), HFIN.out _ _⟩
    | some s =>
      have hT2 : T2 = none := by rcases hbad with h | h; cases h; exact h
      subst hT2
      clear hbad
      go_wp2
      refine bodyPost_ret (v := .tuple #[tv false none 0 0, .int .i64 2]) (by simp [results, Try.f21, go_sem, tv, c0, c1']) rfl ?_
      exact ⟨.inr (.inr (.inr ⟨.inr rfl, rfl⟩)), HFIN.out _ _⟩
  · obtain ⟨s, rfl⟩ : ∃ s, T1 = some s := by cases T1 with | none => exact absurd (.inl rfl) hbad | some s => exact ⟨s, rfl⟩
    obtain ⟨t, rfl⟩ : ∃ t, T2 = some t := by cases T2 with | none => exact absurd (.inr rfl) hbad | some s => exact ⟨s, rfl⟩
    obtain ⟨i1, hd1, hnn1⟩ := HI1.out s rfl
    obtain ⟨i2, hd2, hnn2⟩ := HI2.out t rfl
    have hc3 := means_any s _ w2 hd1 hnn1 (i1.up HS2.out.bel)
    have HJ2 := Lib.hid i2
    have m0 := HS2.out.a0
    have m1 := HS2.out.a1
    clear hbad i1 i2 HI1 HI2
    simp only [Option.isSome_some]
    go_wp2_with fail
    refine hc3.mono ?_
    rintro e w3 ⟨B3, d3, rfl, hg3, hb3, _⟩
    have HS3 := Lib.hid (HS2.out.next hb3)
    have hc4 := means_any t _ w3 hd2 hnn2 (HJ2.out.up HS3.out.bel)
    have m2 := HS3.out.b0
    have m3 := HS3.out.b1
    have HG3 := Lib.hid hg3
    have HW3 := Lib.hid hb3.size
    clear hb3 hc3 m0 m1 hg3
    go_wp2_with fail
    refine hc4.mono ?_
    rintro e w4 ⟨B4, d4, rfl, hg4, hb4, _⟩
    have HS4 := Lib.hid (HS3.out.next hb4)
    have hg3 := HG3.out.below hb4 (Nat.le_refl _)
    have hlen1 : (ranges s 0 4294967296).length ≤ 2047 := Nat.le_trans (ranges_len s 32 0) hnn1
    have hlen2 : (ranges t 0 4294967296).length ≤ 2047 := Nat.le_trans (ranges_len t 32 0) hnn2
    have hv1 : ∀ r ∈ ranges s 0 4294967296, r.1 ≤ r.2 ∧ r.2 ≤ 1000000000000 := fun r hr => by
      have h1 := ranges_in s 32 0 hd1 r hr
      have h2 := ranges_up s _ _ r hr
      have e3 : (2 : Nat) ^ 32 = 4294967296 := rfl
      omega
    have hv2 : ∀ r ∈ ranges t 0 4294967296, r.1 ≤ r.2 ∧ r.2 ≤ 1000000000000 := fun r hr => by
      have h1 := ranges_in t 32 0 hd2 r hr
      have h2 := ranges_up t _ _ r hr
      have e3 : (2 : Nat) ^ 32 = 4294967296 := rfl
      omega
    have hc5 := meet_any B3 d3 _ B4 d4 _ w4 hg3.row (by omega) hv1 hg4.row (by omega) (fun r hr => by have := hv2 r hr; omega)
    have HMU : Hid (meetL (ranges s 0 4294967296) (ranges t 0 4294967296) = false → ∀ b j, mu (ranges s 0 4294967296 ++ ranges t 0 4294967296) b j ≤ 2 ^ j) := fun h b j => apart_mu s t 32 0 hd1 hd2 h b j
    have HVV : Hid (∀ r ∈ ranges s 0 4294967296 ++ ranges t 0 4294967296, r.1 ≤ 1000000000000 ∧ r.2 ≤ 1000000000000) := fun r hr => by
      rcases List.mem_append.1 hr with h | h
      · have := hv1 r h; omega
      · have := hv2 r h; omega
    obtain ⟨L1, hL1⟩ : ∃ L, ranges s 0 4294967296 = L := ⟨_, rfl⟩
    obtain ⟨L2, hL2⟩ : ∃ L, ranges t 0 4294967296 = L := ⟨_, rfl⟩
    rw [hL1] at hlen1
    rw [hL2] at hlen2
    have HR : Hid (∀ e w', SumR (some s) (some t) w e w' ↔ ((∃ v u, meetL L1 L2 = false ∧ u = Tr.build (mu (L1 ++ L2)) 32 0 ∧ (u.depth ≤ 32 ∧ u.nodes ≤ 2047) ∧ e = .returned (.tuple #[v, .int .i64 0]) ∧ InT w' w'.heap.size u v) ∨ (meetL L1 L2 = true ∧ e = .returned (.tuple #[tv false none 0 0, .int .i64 42])) ∨ (∃ u, meetL L1 L2 = false ∧ u = Tr.build (mu (L1 ++ L2)) 32 0 ∧ ¬ (u.depth ≤ 32 ∧ u.nodes ≤ 2047) ∧ e = .returned (.tuple #[tv false none 0 0, .int .i64 2]))) ∧ Below w.heap.size w w') := fun e w' => by
      unfold SumR
      rw [← hL1, ← hL2]
      refine and_congr_left fun _ => ⟨?_, ?_⟩
      · rintro (⟨s', t', v, u, h1, h2, h3⟩ | ⟨s', t', h1, h2, h3⟩ | ⟨s', t', u, h1, h2, h3⟩ | ⟨h | h, _⟩)
        · cases h1; cases h2; exact .inl ⟨v, u, h3⟩
        · cases h1; cases h2; exact .inr (.inl h3)
        · cases h1; cases h2; exact .inr (.inr ⟨u, h3⟩)
        · cases h
        · cases h
      · rintro (⟨v, u, h⟩ | h | ⟨u, h⟩)
        · exact .inl ⟨s, t, v, u, rfl, rfl, h⟩
        · exact .inr (.inl ⟨s, t, rfl, rfl, h⟩)
        · exact .inr (.inr (.inl ⟨s, t, u, rfl, rfl, h⟩))
    rw [hL1, hL2] at hc5 HMU HVV
    rw [hL1] at hg3
    rw [hL2] at hg4
    have HG3b := Lib.hid hg3
    have HG4 := Lib.hid hg4
    simp only [hL1, hL2]
    clear hL1 hL2 hv1 hv2 hg3 hg4 hb4 hc4 m2 m3 HG3
    go_wp2_with fail
    refine hc5.mono ?_
    rintro e w5 ⟨rfl, hb5⟩
    have HS5 := Lib.hid (HS4.out.next hb5)
    have HG3c := Lib.hid (HG3b.out.below hb5 (Nat.le_refl _))
    have HG4c := Lib.hid (HG4.out.below hb5 (Nat.le_refl _))
    clear hb5 hc5 HG3b HG4
    obtain ⟨⟨c0, c1'⟩, f0, f1⟩ := HS5.out.box.facts
    have HFIN : Hid (∀ u1 u2, Below w.heap.size w ((w5.setCell ⟨w.heap.size + 1 + 1, 0, none⟩ u1).setCell ⟨w.heap.size + 1 + 1, 1, none⟩ u2)) := fun u1 u2 => (HS5.out.bel.setCell (p := ⟨w.heap.size + 1 + 1, 0, none⟩) (by show _ ≤ w.heap.size + 1 + 1; omega) _).setCell (p := ⟨w.heap.size + 1 + 1, 1, none⟩) (by show _ ≤ w.heap.size + 1 + 1; omega) _
    cases hm : meetL L1 L2 with
    | true =>
      have HM := Lib.hid hm
      clear hm
      go_wp2
      refine bodyPost_ret (v := .tuple #[tv false none 0 0, .int .i64 42]) (by simp [results, Try.f21, go_sem, tv, c0, c1']) rfl ?_
      rw [HR.out]
      exact ⟨.inr (.inl ⟨HM.out, rfl⟩), HFIN.out _ _⟩
    | false =>
      have HM := Lib.hid hm
      obtain ⟨W6, hmk, hg6, hb6⟩ := make_ranges (L1.length + L2.length) (by omega) w5
      rw [show ((L1.length + L2.length : Nat) : Int) = (L1.length : Int) + (L2.length : Int) by omega] at hmk
      obtain ⟨A7, c7, w7, hap7, hA7, hg7, hb7⟩ := hg6.app (by simp) B3 d3 L1 _ (HG3c.out.below hb6 (Nat.le_refl _)) 51 (by simp; omega) hb6.size
      rw [List.nil_append] at hg7
      simp only [List.length_nil, Nat.zero_add] at hap7
      obtain ⟨A8, c8, w8, hap8, hA8, hg8, hb8⟩ := hg7.app hA7 B4 d4 L2 _ (HG4c.out.below (hb6.trans hb7) (Nat.le_refl _)) 51 (by omega) (Nat.le_trans hb6.size hb7.size)
      have hB8 : Below w5.heap.size w5 w8 := (hb6.trans hb7).trans hb8
      have HS8 := Lib.hid (HS5.out.next hB8)
      have hc9 := tree_any 32 A8 c8 (L1 ++ L2) 0 4294967296 w8 rfl (by omega) hg8.row (by rw [List.length_append]; omega) HVV.out (HMU.out hm)
      rw [List.length_append] at hc9
      simp only [Int.natCast_zero] at hc9
      obtain ⟨U, hU⟩ : ∃ U, Tr.build (mu (L1 ++ L2)) 32 0 = U := ⟨_, rfl⟩
      rw [hU] at hc9
      simp only [hU] at HR
      have HAP7 := Lib.hid hap7
      have HAP8 := Lib.hid hap8
      clear hm hap7 hap8 hg6 hb6 hg7 hb7 hg8 hb8 hB8 hA7 hA8 c0 c1' f0 f1 HFIN hU
      go_wp2_with (first
        | (at_builtin; refine wpList_append_run rfl _ _ _ _ rfl _ _ rfl rfl HAP7.out ?_; clear HAP7)
        | (at_builtin; refine wpList_append_run rfl _ _ _ _ rfl _ _ rfl rfl HAP8.out ?_; clear HAP8)
        | (go_at_call 37; refine hc9.mono ?_; rintro e w9 ⟨v9, rfl, ht9, hb9⟩; obtain ⟨o9, B9, m9, e9, rfl⟩ := ht9.form; have HS9 := Lib.hid (HS8.out.next hb9); have HT9 := Lib.hid ht9; clear hb9 ht9; unfold tv)
        | fail)
      have hb10 : Below w9.heap.size w9 (w9.alloc (.cells #[.bool o9, .slice B9 m9 e9] 24)) := (Below.refl _ w9).alloc (Nat.le_refl _) _
      have hc10 := rRight_tr U (tv o9 B9 m9 e9) _ (HT9.out.up hb10)
      unfold tv at hc10
      have HS10 := Lib.hid (HS9.out.next hb10)
      have HT10 := Lib.hid (HT9.out.up hb10)
      clear hb10 hc9
      refine hc10.mono ?_
      rintro e w11 ⟨rfl, hb11⟩
      have HS11 := Lib.hid (HS10.out.next hb11)
      have HT11 := Lib.hid (HT10.out.up hb11)
      obtain ⟨⟨c0, c1'⟩, f0, f1⟩ := HS11.out.box.facts
      have q0 : w11.cell? ⟨w9.heap.size, 0, none⟩ = some (.bool o9) := by rw [hb11.cell (p := ⟨w9.heap.size, 0, none⟩) (by simp)]; simp [go_sem]
      have q1 : w11.cell? ⟨w9.heap.size, 1, none⟩ = some (.slice B9 m9 e9) := by rw [hb11.cell (p := ⟨w9.heap.size, 1, none⟩) (by simp)]; simp [go_sem]
      have HFIN : Hid (∀ u1 u2, Below w.heap.size w ((w11.setCell ⟨w.heap.size + 1 + 1, 0, none⟩ u1).setCell ⟨w.heap.size + 1 + 1, 1, none⟩ u2)) := fun u1 u2 => (HS11.out.bel.setCell (p := ⟨w.heap.size + 1 + 1, 0, none⟩) (by show _ ≤ w.heap.size + 1 + 1; omega) _).setCell (p := ⟨w.heap.size + 1 + 1, 1, none⟩) (by show _ ≤ w.heap.size + 1 + 1; omega) _
      clear hb11 hc10
      by_cases hok : U.depth ≤ 32 ∧ U.nodes ≤ 2047
      · have HOK := Lib.hid hok
        have hokb : (decide (U.depth ≤ 32) && decide (U.nodes ≤ 2047)) = true := by rw [decide_eq_true hok.1, decide_eq_true hok.2]; rfl
        have HIN : Hid (∀ u1 u2, InT ((w11.setCell ⟨w.heap.size + 1 + 1, 0, none⟩ u1).setCell ⟨w.heap.size + 1 + 1, 1, none⟩ u2) ((w11.setCell ⟨w.heap.size + 1 + 1, 0, none⟩ u1).setCell ⟨w.heap.size + 1 + 1, 1, none⟩ u2).heap.size U (tv o9 B9 m9 e9)) := fun u1 u2 => (store_in HS11.out.box HT11.out HS11.out.bel (by omega)).1
        clear hok
        rw [hokb]
        go_wp2
        refine bodyPost_ret (v := .tuple #[tv o9 B9 m9 e9, .int .i64 0]) (by simp [results, Try.f21, go_sem, tv, c0, c1']) rfl ?_
        rw [HR.out]
        exact ⟨.inl ⟨_, U, HM.out, rfl, HOK.out, rfl, HIN.out _ _⟩, HFIN.out _ _⟩
      · have HOK := Lib.hid hok
        have hokb : (decide (U.depth ≤ 32) && decide (U.nodes ≤ 2047)) = false := by
          rw [Bool.and_eq_false_iff]
          by_cases h : U.depth ≤ 32
          · exact .inr (decide_eq_false fun h2 => hok ⟨h, h2⟩)
          · exact .inl (decide_eq_false h)
        clear hok
        rw [hokb]
        go_wp2
        refine bodyPost_ret (v := .tuple #[tv false none 0 0, .int .i64 2]) (by simp [results, Try.f21, go_sem, tv, c0, c1']) rfl ?_
        rw [HR.out]
        exact ⟨.inr (.inr ⟨U, HM.out, rfl, HOK.out, rfl⟩), HFIN.out _ _⟩
end Go.Proofs.Ytkpefelakhbkhaa.I
