/-
  The program's small functions: leaf, rightNode, fits, alike, lowest, kind, halves, raise; norm.
-/
import Derived.Test.YtflghlmikpfnpaaDoorETree
namespace Go.Proofs.YtflghlmikpfnpaaDoor.E
open Go.RowKit

theorem XS.fresh {w W : World} {bs : List (Nat × Nat × Value)} {rs : List Nat} (h : XS w bs rs W) (u v : Value) (t : TypeId) : XS w bs (rs ++ [W.heap.size]) (W.alloc (.cells #[u, v] t)) := (h.boxed u v t).sub (fun _ hm => List.mem_append_left _ hm) (fun _ hm => hm)
theorem int_zero (n : Nat) : ((n : Int) == 0) = decide (n = 0) := by
  by_cases h : n = 0
  · subst h; rfl
  · rw [decide_eq_false h]; exact beq_eq_false_iff_ne.2 (by omega)
theorem pleaf_any (o : Int) (A : Option Addr) (n c : Nat) (w : World) : Calls Tryd.prog 68 #[tv o A n c] w fun e w' => e = .returned (.bool (decide (n = 0))) ∧ Below w.heap.size w w' := by
  have h := int_zero n
  unfold tv
  go_enter Tryd.func68, Tryd.ntmps68
  go_wp2
  go_ret
  exact ⟨ret_bool (by simp), (Below.refl _ w).alloc (Nat.le_refl _) _⟩

set_option maxHeartbeats 800000 in
theorem rightNode_any (o : Int) (A : Option Addr) (n c : Nat) (w : World) : Calls Tryd.prog 42 #[tv o A n c] w fun e w' => e = .returned (.bool (okN o n)) ∧ Below w.heap.size w w' := by
  have hb0 : Below w.heap.size w (w.alloc (.cells #[.int .i64 o, .slice A n c] 24)) := (Below.refl _ w).alloc (Nat.le_refl _) _
  have hc := pleaf_any o A n c (w.alloc (.cells #[.int .i64 o, .slice A n c] 24))
  unfold tv at *
  by_cases ho : 0 ≤ o
  · go_enter Tryd.func42, Tryd.ntmps42
    go_wp2_with fail
    refine hc.mono ?_
    rintro e w1 ⟨rfl, hb1⟩
    have f1 := (hb1.cell (p := ⟨w.heap.size, 1, none⟩) (by simp)).trans (show _ = some (.slice A n c) by simp [go_sem])
    have HB : Hid (Below w.heap.size w w1) := hb0.trans (hb1.mono (by simp))
    clear hb1 hb0 hc
    by_cases h0 : n = 0
    · subst h0
      go_wp2
      go_ret
      exact ⟨ret_bool (by simp [okN, ho]), HB.out⟩
    · have h0b : decide (n = 0) = false := decide_eq_false h0
      rw [h0b]
      by_cases h2 : n = 2
      · subst h2
        go_wp2
        go_ret
        exact ⟨ret_bool (by simp [okN, ho]), HB.out⟩
      · have h2b : ((n : Int) == 2) = false := beq_eq_false_iff_ne.2 (by omega)
        have HN := Lib.hid h0
        have HN2 := Lib.hid h2
        clear h0 h0b h2
        go_wp2
        go_ret
        exact ⟨ret_bool (by simp [okN, HN.out, HN2.out]), HB.out⟩
  · clear hc
    go_enter Tryd.func42, Tryd.ntmps42
    go_wp2
    go_ret
    exact ⟨ret_bool (by simp [okN]; omega), hb0⟩

set_option maxHeartbeats 800000 in
theorem fits_any (n d s : Int) (w : World) : Calls Tryd.prog 43 #[.int .i64 n, .agg #[.int .i64 d, .int .i64 s]] w fun e w' => e = .returned (.bool (fitsB n d s)) ∧ Below w.heap.size w w' := by
  have hb0 : Below w.heap.size w (w.alloc (.cells #[.int .i64 d, .int .i64 s] 58)) := (Below.refl _ w).alloc (Nat.le_refl _) _
  have HE : Hid (wrap64 (mc - s) = IntKind.i64.wrap (4611686018427387904 - s)) := (IntWalk.i64_left _).symm
  obtain ⟨z, hz⟩ : ∃ z, IntKind.i64.wrap (4611686018427387904 - s) = z := ⟨_, rfl⟩
  have hz2 := (IntWalk.i64_left (4611686018427387904 - s)).symm.trans hz
  rw [hz] at HE
  by_cases hd : d ≤ 32
  · go_enter Tryd.func43, Tryd.ntmps43
    go_wp2
    go_ret
    refine ⟨ret_bool ?_, hb0⟩
    unfold fitsB
    rw [HE.out]
    simp [hd]
  · go_enter Tryd.func43, Tryd.ntmps43
    go_wp2
    go_ret
    exact ⟨ret_bool (by simp [fitsB]; omega), hb0⟩

def alikeB (o1 : Int) (n1 : Nat) (o2 : Int) (n2 : Nat) : Bool := decide (n1 = 0) && (decide (n2 = 0) && decide (o1 = o2))
set_option maxHeartbeats 1600000 in
theorem alike_any (o1 : Int) (A1 : Option Addr) (n1 c1 : Nat) (o2 : Int) (A2 : Option Addr) (n2 c2 : Nat) (w : World) :
    Calls Tryd.prog 90 #[tv o1 A1 n1 c1, tv o2 A2 n2 c2] w fun e w' => e = .returned (.bool (alikeB o1 n1 o2 n2)) ∧ Below w.heap.size w w' := by
  have HX := Lib.hid (((XS.begin w).boxed (.int .i64 o1) (.slice A1 n1 c1) 24).boxed (.int .i64 o2) (.slice A2 n2 c2) 24)
  simp only [List.nil_append, List.cons_append, World.size_alloc] at HX
  have hc := pleaf_any o1 A1 n1 c1 ((w.alloc (.cells #[.int .i64 o1, .slice A1 n1 c1] 24)).alloc (.cells #[.int .i64 o2, .slice A2 n2 c2] 24))
  have hc2 := fun W => pleaf_any o2 A2 n2 c2 W
  unfold tv at *
  go_enter Tryd.func90, Tryd.ntmps90
  go_wp2_with fail
  refine hc.mono ?_
  rintro e w1 ⟨rfl, hb1⟩
  have HX1 := Lib.hid (HX.out.next hb1)
  have f := HX1.out.at0
  simp only [List.mem_cons, List.not_mem_nil, or_false, forall_eq_or_imp, forall_eq] at f
  obtain ⟨p0, p1, p2, p3⟩ := f
  clear hb1 hc HX
  by_cases h0 : n1 = 0
  · subst h0
    go_wp2_with fail
    refine (hc2 w1).mono ?_
    rintro e w2 ⟨rfl, hb2⟩
    have HX2 := Lib.hid (HX1.out.next hb2)
    clear p0 p1 p2 p3
    have f := HX2.out.at0
    simp only [List.mem_cons, List.not_mem_nil, or_false, forall_eq_or_imp, forall_eq] at f
    obtain ⟨p0, p1, p2, p3⟩ := f
    clear hb2 hc2 HX1
    by_cases h2 : n2 = 0
    · subst h2
      go_wp2
      go_ret
      exact ⟨ret_bool (by simp [alikeB]; rfl), HX2.out.bel⟩
    · have h2b : decide (n2 = 0) = false := decide_eq_false h2
      rw [h2b]
      have HN := Lib.hid h2
      clear h2 h2b
      go_wp2
      go_ret
      exact ⟨ret_bool (by simp [alikeB, HN.out]), HX2.out.bel⟩
  · have h0b : decide (n1 = 0) = false := decide_eq_false h0
    rw [h0b]
    have HN := Lib.hid h0
    clear h0 h0b hc2
    go_wp2
    go_ret
    exact ⟨ret_bool (by simp [alikeB, HN.out]), HX1.out.bel⟩
theorem alike_in {P Q : Nat → Prop} {w W : World} {x y : Tr} {o1 o2 : Int} {A1 A2 : Option Addr} {n1 n2 c1 c2 : Nat} (hx : InP P w x (tv o1 A1 n1 c1)) (hy : InP Q W y (tv o2 A2 n2 c2)) : alikeB o1 n1 o2 n2 = Tr.alike x y := by
  rcases hx.leafy with ⟨rfl, rfl⟩ | ⟨rfl, l, r, rfl⟩
  · rcases hy.leafy with ⟨rfl, rfl⟩ | ⟨rfl, l, r, rfl⟩
    · simp [alikeB, Tr.alike]
    · simp [alikeB, Tr.alike]
  · cases y <;> simp [alikeB, Tr.alike]
/-- Is a node of two normal forms one itself? -/
def lowestT (x y : Tr) : Bool := !(Tr.alike x y) && decide (min x.N y.N = 0)
set_option maxHeartbeats 1600000 in
theorem lowest_any {P Q : Nat → Prop} (x y : Tr) (u v : Value) (w : World) (hx : InP P w x u) (hy : InP Q w y v) :
    Calls Tryd.prog 78 #[u, v] w fun e w' => e = .returned (.bool (lowestT x y)) ∧ Below w.heap.size w w' := by
  obtain ⟨A1, n1, c1, rfl⟩ := hx.form
  obtain ⟨A2, n2, c2, rfl⟩ := hy.form
  have HA := Lib.hid (alike_in hx hy)
  have HL : Hid (∀ b, Tr.alike x y = b → lowestT x y = (!b && decide (min x.N y.N = 0))) := fun b hb => by unfold lowestT; rw [hb]
  generalize x.N = o1 at *
  generalize y.N = o2 at *
  have HX := Lib.hid (((XS.begin w).boxed (.int .i64 o1) (.slice A1 n1 c1) 24).boxed (.int .i64 o2) (.slice A2 n2 c2) 24)
  simp only [List.nil_append, List.cons_append, World.size_alloc] at HX
  have hc := alike_any o1 A1 n1 c1 o2 A2 n2 c2 ((w.alloc (.cells #[.int .i64 o1, .slice A1 n1 c1] 24)).alloc (.cells #[.int .i64 o2, .slice A2 n2 c2] 24))
  rw [HA.out] at hc
  obtain ⟨b, hb⟩ : ∃ b, Tr.alike x y = b := ⟨_, rfl⟩
  have HLB := Lib.hid (HL.out b hb)
  rw [hb] at hc
  have hmn : (if o2 < o1 then o2 else o1) = min o1 o2 := by omega
  clear hx hy HL hb HA
  unfold tv at *
  go_enter Tryd.func78, Tryd.ntmps78
  go_wp2_with fail
  refine hc.mono ?_
  rintro e w1 ⟨rfl, hb1⟩
  have HX1 := Lib.hid (HX.out.next hb1)
  have f := HX1.out.at0
  simp only [List.mem_cons, List.not_mem_nil, or_false, forall_eq_or_imp, forall_eq] at f
  obtain ⟨p0, p1, p2, p3⟩ := f
  clear hb1 hc HX
  cases b with
  | true =>
    go_wp2
    go_ret
    exact ⟨ret_bool (by rw [HLB.out]; rfl), HX1.out.bel⟩
  | false =>
    obtain ⟨mn, hm⟩ : ∃ mn, min o1 o2 = mn := ⟨_, rfl⟩
    rw [hm] at hmn HLB
    clear hm
    go_wp2
    go_ret
    refine ⟨ret_bool ?_, HX1.out.bel⟩
    rw [HLB.out]; simp; rfl

theorem kind_any (o : Int) (A : Option Addr) (n c : Nat) (w : World) : Calls Tryd.prog 58 #[tv o A n c] w fun e w' => e = .returned (.int .u64 (if n = 0 then 0 else 1)) ∧ Below w.heap.size w w' := by
  have hb0 : Below w.heap.size w (w.alloc (.cells #[.int .i64 o, .slice A n c] 24)) := (Below.refl _ w).alloc (Nat.le_refl _) _
  have hc := pleaf_any o A n c (w.alloc (.cells #[.int .i64 o, .slice A n c] 24))
  unfold tv at *
  go_enter Tryd.func58, Tryd.ntmps58
  go_wp2_with fail
  refine hc.mono ?_
  rintro e w1 ⟨rfl, hb1⟩
  have HB : Hid (Below w.heap.size w w1) := hb0.trans (hb1.mono (by simp))
  clear hb1 hb0 hc
  by_cases h0 : n = 0
  · subst h0
    go_wp2
    go_ret
    exact ⟨ret_int (by simp), HB.out⟩
  · have h0b : decide (n = 0) = false := decide_eq_false h0
    rw [h0b]
    have HN := Lib.hid h0
    clear h0 h0b
    go_wp2
    go_ret
    exact ⟨ret_int (by first | rfl | rw [if_neg HN.out]), HB.out⟩

/-- A slice of two trees that was made: a node. -/
theorem two_in {P Q : Nat → Prop} {W : World} {x y : Tr} {n o1 o2 : Int} {A1 A2 : Option Addr} {n1 n2 c1 c2 g : Nat} (hg : W.heap[g]? = some (.cells #[.int .i64 o1, .slice A1 n1 c1, .int .i64 o2, .slice A2 n2 c2] 24 (0, 0))) (hx : InP P W x (tv o1 A1 n1 c1)) (hy : InP P W y (tv o2 A2 n2 c2)) (hQ : ∀ b, P b → Q b) (hq : Q g) :
    InP Q W (.node n x y) (tv n (some ⟨g, 0, none⟩) 2 2) := by
  refine ⟨g, 0, 2, rfl, hq, ⟨o1, A1, n1, c1, ?_, ?_, hx.more hQ⟩, ⟨o2, A2, n2, c2, ?_, ?_, hy.more hQ⟩⟩
  · rw [cell_of_row W g 0 _ 24 (0, 0) hg]; rfl
  · rw [cell_of_row W g 1 _ 24 (0, 0) hg]; rfl
  · rw [cell_of_row W g 2 _ 24 (0, 0) hg]; rfl
  · rw [cell_of_row W g 3 _ 24 (0, 0) hg]; rfl

set_option maxRecDepth 100000 in
set_option maxHeartbeats 1600000 in
theorem raise_any {P : Nat → Prop} (n : Int) (x y : Tr) (u v : Value) (w : World) (hx : InP P w x u) (hy : InP P w y v) (hn : 0 ≤ n) (hx0 : 0 ≤ x.N) (hx1 : x.N ≤ 4611686018427387904) (hy0 : 0 ≤ y.N) (hy1 : y.N ≤ 4611686018427387904) (hs : n + min x.N y.N ≤ 4611686018427387904) :
    Calls Tryd.prog 69 #[.int .i64 n, u, v] w fun e w' => ∃ v', e = .returned v' ∧ InP (fun b => P b ∨ New w w' b) w' (Tr.raise n x y) v' ∧ Below w.heap.size w w' := by
  obtain ⟨A1, n1, c1, rfl⟩ := hx.form
  obtain ⟨A2, n2, c2, rfl⟩ := hy.form
  have HA := Lib.hid (alike_in hx hy)
  have HRT : Hid (Tr.alike x y = true → Tr.raise n x y = .leaf (n + x.N)) := fun h => if_pos h
  have HRF : Hid (Tr.alike x y = false → Tr.raise n x y = .node (n + min x.N y.N) (x.add (-(min x.N y.N))) (y.add (-(min x.N y.N)))) := fun h => if_neg (by rw [h]; decide)
  have HXX := Lib.hid hx
  have HYY := Lib.hid hy
  have HEQ : Hid (Tr.alike x y = true → x.N = y.N) := by
    intro h
    cases x with
    | leaf p => cases y with
      | leaf q => simpa [Tr.alike, Tr.N] using h
      | node _ _ _ => simp [Tr.alike] at h
    | node _ _ _ => simp [Tr.alike] at h
  clear hx hy
  generalize x.N = o1 at *
  generalize y.N = o2 at *
  have HX := Lib.hid ((((XS.begin w).boxed (.int .i64 o1) (.slice A1 n1 c1) 24).boxed (.int .i64 o2) (.slice A2 n2 c2) 24).fresh (.int .i64 0) (.slice none 0 0) 24)
  simp only [List.nil_append, List.cons_append, World.size_alloc] at HX
  have hc := alike_any o1 A1 n1 c1 o2 A2 n2 c2 (((w.alloc (.cells #[.int .i64 o1, .slice A1 n1 c1] 24)).alloc (.cells #[.int .i64 o2, .slice A2 n2 c2] 24)).alloc (.cells #[.int .i64 0, .slice none 0 0] 24))
  rw [HA.out] at hc
  obtain ⟨b, hb⟩ : ∃ b, Tr.alike x y = b := ⟨_, rfl⟩
  rw [hb] at hc HRT HRF HEQ
  have hmn : (if o2 < o1 then o2 else o1) = min o1 o2 := by omega
  obtain ⟨m, hm⟩ : ∃ m, min o1 o2 = m := ⟨_, rfl⟩
  have hm1 : m ≤ o1 := by omega
  have hm2 : m ≤ o2 := by omega
  have hm0 : 0 ≤ m := by omega
  have HMX : Hid (b = true → m = o1) := fun h => by have := HEQ.out h; omega
  rw [hm] at hmn HRF hs
  clear hb HA hm HEQ
  unfold tv at *
  go_enter Tryd.func69, Tryd.ntmps69
  go_wp2_with fail
  refine hc.mono ?_
  rintro e w1 ⟨rfl, hb1⟩
  have HX1 := Lib.hid (HX.out.next hb1)
  have f := HX1.out.at0
  simp only [List.mem_cons, List.not_mem_nil, or_false, forall_eq_or_imp, forall_eq] at f
  obtain ⟨p0, p1, p2, p3⟩ := f
  obtain ⟨u0, u1, ⟨c0, c1'⟩, f0, f1⟩ := HX1.out.facts (w.heap.size + 1 + 1) (by simp)
  clear hb1 hc HX
  cases b with
  | true =>
    have hmx := HMX.out rfl
    subst hmx
    have HFIN : Hid (∀ u1 u2, InP (fun _ => False) ((w1.setCell ⟨w.heap.size + 1 + 1, 0, none⟩ u1).setCell ⟨w.heap.size + 1 + 1, 1, none⟩ u2) (.leaf (n + m)) (tv (n + m) none 0 0) ∧ Below w.heap.size w ((w1.setCell ⟨w.heap.size + 1 + 1, 0, none⟩ u1).setCell ⟨w.heap.size + 1 + 1, 1, none⟩ u2)) := fun u1 u2 => HX1.out.fin (P := fun _ => False) (t := .leaf (n + m)) (x := tv (n + m) none 0 0) _ (by simp) ⟨none, 0, rfl⟩ _ _
    clear HX1 hmn
    go_wp2
    refine bodyPost_ret (v := tv (n + m) none 0 0) (by simp [results, Tryd.f69, go_sem, tv, c0, c1']) rfl ?_
    refine ⟨_, rfl, ?_, (HFIN.out _ _).2⟩
    rw [HRT.out (by simp)]
    exact (HFIN.out _ _).1.more fun _ h => h.elim
  | false =>
    obtain ⟨v0, v1, ⟨d0, d1⟩, g0, g1⟩ := HX1.out.facts w.heap.size (by simp)
    obtain ⟨v2, v3, ⟨d2, d3⟩, g2, g3⟩ := HX1.out.facts (w.heap.size + 1) (by simp)
    obtain ⟨W1, hW1⟩ : ∃ W1, w1.setCell ⟨w.heap.size, 0, none⟩ (.int .i64 (o1 - m)) = W1 := ⟨_, rfl⟩
    obtain ⟨W2, hW2⟩ : ∃ W2, W1.setCell ⟨w.heap.size + 1, 0, none⟩ (.int .i64 (o2 - m)) = W2 := ⟨_, rfl⟩
    have HXA : XS w [(w.heap.size, 1, .slice A1 n1 c1), (w.heap.size + 1, 0, .int .i64 o2), (w.heap.size + 1, 1, .slice A2 n2 c2)] [w.heap.size, w.heap.size + 1, w.heap.size + 1 + 1] W1 := by
      rw [← hW1]
      exact (HX1.out.sub (by simp) (by simp)).store w.heap.size 0 _ (by simp) (by simp)
    have HXB : XS w [(w.heap.size, 1, .slice A1 n1 c1), (w.heap.size + 1, 1, .slice A2 n2 c2)] [w.heap.size, w.heap.size + 1, w.heap.size + 1 + 1] W2 := by
      rw [← hW2]
      exact (HXA.sub (by simp) (by simp)).store (w.heap.size + 1) 0 _ (by simp) (by simp)
    have q0 : W2.cell? ⟨w.heap.size, 0, none⟩ = some (.int .i64 (o1 - m)) := by
      rw [← hW2, ← hW1]
      refine (World.cell?_setCell_other _ _ _ _ (fun e => by injection e; omega)).trans ?_
      simp [go_sem, d0]
    have q1 := HXB.get (g := w.heap.size) (i := 1) (v := .slice A1 n1 c1) (by simp)
    have q2 : W2.cell? ⟨w.heap.size + 1, 0, none⟩ = some (.int .i64 (o2 - m)) := by
      rw [← hW2]
      have := HXA.get (g := w.heap.size + 1) (i := 0) (v := .int .i64 o2) (by simp)
      simp [go_sem, this]
    have q3 := HXB.get (g := w.heap.size + 1) (i := 1) (v := .slice A2 n2 c2) (by simp)
    have a2 := HXA.get (g := w.heap.size + 1) (i := 0) (v := .int .i64 o2) (by simp)
    obtain ⟨_, _, ⟨e2, e3⟩, a0, a1⟩ := HXA.facts (w.heap.size + 1) (by simp)
    have HB2 := Lib.hid HXB
    obtain ⟨t0, t1, ⟨k0, k1⟩, k2, k3⟩ := HXB.facts (w.heap.size + 1 + 1) (by simp)
    have hsz : w.heap.size + 1 + 1 < W2.heap.size := World.block_lt_of_cell? W2 _ k0
    have HSZ := Lib.hid hsz
    have hW2s : W2.heap.size = w1.heap.size := by rw [← hW2, ← hW1]; simp
    obtain ⟨W3, hW3⟩ : ∃ W3, (W2.setCell ⟨w.heap.size + 1 + 1, 0, none⟩ (.int .i64 (n + m))).setCell ⟨w.heap.size + 1 + 1, 1, none⟩ (.slice (some ⟨w1.heap.size, 0, none⟩) 2 2) = W3 := ⟨_, rfl⟩
    have HXC : XS w [(w.heap.size, 1, .slice A1 n1 c1), (w.heap.size + 1, 1, .slice A2 n2 c2)] [w.heap.size, w.heap.size + 1, w.heap.size + 1 + 1] W3 := by
      rw [← hW3]
      exact ((HXB.store (w.heap.size + 1 + 1) 0 _ (by simp) (by simp <;> omega)).store (w.heap.size + 1 + 1) 1 _ (by simp) (by simp <;> omega))
    have hW3s : W3.heap.size = w1.heap.size := by rw [← hW3]; simp [hW2s]
    have r0 : W3.cell? ⟨w.heap.size + 1 + 1, 0, none⟩ = some (.int .i64 (n + m)) := by
      rw [← hW3]
      refine (World.cell?_setCell_other _ _ _ _ (fun e => by injection e; omega)).trans ?_
      simp [go_sem, k0]
    have r1 : W3.cell? ⟨w.heap.size + 1 + 1, 1, none⟩ = some (.slice (some ⟨w1.heap.size, 0, none⟩) 2 2) := by
      rw [← hW3]
      simp [go_sem, k1]
    obtain ⟨W4, hW4⟩ : ∃ W4, W3.alloc (.cells #[.int .i64 (o1 - m), .slice A1 n1 c1, .int .i64 (o2 - m), .slice A2 n2 c2] 24) = W4 := ⟨_, rfl⟩
    have s0 : W4.cell? ⟨w.heap.size + 1 + 1, 0, none⟩ = some (.int .i64 (n + m)) := by
      rw [← hW4]
      exact (((Below.refl _ W3).alloc (Nat.le_refl _) _).cell (World.block_lt_of_cell? W3 _ r0)).trans r0
    have s1 : W4.cell? ⟨w.heap.size + 1 + 1, 1, none⟩ = some (.slice (some ⟨w1.heap.size, 0, none⟩) 2 2) := by
      rw [← hW4]
      exact (((Below.refl _ W3).alloc (Nat.le_refl _) _).cell (World.block_lt_of_cell? W3 _ r1)).trans r1
    have HFIN : Hid (InP (fun b => P b ∨ New w W4 b) W4 (.node (n + m) (x.add (-m)) (y.add (-m))) (tv (n + m) (some ⟨w1.heap.size, 0, none⟩) 2 2) ∧ Below w.heap.size w W4) := by
      have hx3 := HXC.alloc (.cells #[.int .i64 (o1 - m), .slice A1 n1 c1, .int .i64 (o2 - m), .slice A2 n2 c2] 24)
      rw [hW4] at hx3
      have hxx := ((HXX.out.root (-m)).stay hx3.bel)
      have hyy := ((HYY.out.root (-m)).stay hx3.bel)
      have hnew := heap_alloc_new W3 (.cells #[.int .i64 (o1 - m), .slice A1 n1 c1, .int .i64 (o2 - m), .slice A2 n2 c2] 24)
      rw [hW4, hW3s] at hnew
      refine ⟨two_in (P := P) hnew hxx hyy (fun b hb => .inl hb) (.inr ⟨?_, ?_⟩), hx3.bel⟩
      · rw [← hW3s]; exact HXC.bel.size
      · rw [← hW4]; simp [hW3s]
    have HSS := Lib.hid (And.intro s0 s1)
    clear s0 s1 r0 r1 hW2s HXC hW3s
    have HW4 := Lib.hid hW4
    have HW3 := Lib.hid hW3
    clear hW4 hW3
    subst hW2
    subst hW1
    clear HXB hsz HX1 HXA
    have hsz1 : w.heap.size + 1 + 1 < w1.heap.size := World.block_lt_of_cell? w1 _ c0
    go_wp2
    rw [HW3.out, HW4.out]
    obtain ⟨s0, s1⟩ := HSS.out
    refine bodyPost_ret (v := tv (n + m) (some ⟨w1.heap.size, 0, none⟩) 2 2) (by simp [results, Tryd.f69, go_sem, tv, s0, s1]) rfl ?_
    refine ⟨_, rfl, ?_, HFIN.out.2⟩
    rw [HRF.out (by simp)]
    exact HFIN.out.1
end Go.Proofs.YtflghlmikpfnpaaDoor.E
