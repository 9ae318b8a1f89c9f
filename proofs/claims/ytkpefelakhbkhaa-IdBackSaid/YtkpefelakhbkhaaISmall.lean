/-
  The program's small functions: leaf, rightNode, alike, pair, join.
-/
import Derived.Test.YtkpefelakhbkhaaISum
namespace Go.Proofs.Ytkpefelakhbkhaa.I
open Go.RowKit

theorem int_zero (n : Nat) : ((n : Int) == 0) = decide (n = 0) := by
  by_cases h : n = 0
  · subst h; rfl
  · rw [decide_eq_false h]; exact beq_eq_false_iff_ne.2 (by omega)

theorem pleaf_any (o : Bool) (A : Option Addr) (n c : Nat) (w : World) : Calls Try.prog 62 #[tv o A n c] w fun e w' => e = .returned (.bool (decide (n = 0))) ∧ Below w.heap.size w w' := by
  have h := int_zero n
  unfold tv
  go_enter Try.func62, Try.ntmps62
  go_wp2
  go_ret
  exact ⟨ret_bool (by simp), (Below.refl _ w).alloc (Nat.le_refl _) _⟩

def okN (o : Bool) (n : Nat) : Bool := decide (n = 0) || (decide (n = 2) && !o)
set_option maxHeartbeats 800000 in
theorem rightNode_any (o : Bool) (A : Option Addr) (n c : Nat) (w : World) : Calls Try.prog 42 #[tv o A n c] w fun e w' => e = .returned (.bool (okN o n)) ∧ Below w.heap.size w w' := by
  have hb0 : Below w.heap.size w (w.alloc (.cells #[.bool o, .slice A n c] 24)) := (Below.refl _ w).alloc (Nat.le_refl _) _
  have hc := pleaf_any o A n c (w.alloc (.cells #[.bool o, .slice A n c] 24))
  unfold tv at *
  go_enter Try.func42, Try.ntmps42
  go_wp2_with fail
  refine hc.mono ?_
  rintro e w1 ⟨rfl, hb1⟩
  have f0 := (hb1.cell (p := ⟨w.heap.size, 0, none⟩) (by simp)).trans (show _ = some (.bool o) by simp [go_sem])
  have f1 := (hb1.cell (p := ⟨w.heap.size, 1, none⟩) (by simp)).trans (show _ = some (.slice A n c) by simp [go_sem])
  have HB : Hid (Below w.heap.size w w1) := hb0.trans (hb1.mono (by simp))
  clear hb1 hb0 hc
  by_cases h0 : n = 0
  · subst h0
    go_wp2
    go_ret
    exact ⟨ret_bool (by simp [okN]), HB.out⟩
  · have h0b : decide (n = 0) = false := decide_eq_false h0
    rw [h0b]
    by_cases h2 : n = 2
    · subst h2
      go_wp2
      go_ret
      exact ⟨ret_bool (by simp [okN]), HB.out⟩
    · have h2b : ((n : Int) == 2) = false := beq_eq_false_iff_ne.2 (by omega)
      have HN := Lib.hid h0
      have HN2 := Lib.hid h2
      clear h0 h0b h2
      go_wp2
      go_ret
      exact ⟨ret_bool (by simp [okN, HN.out, HN2.out]), HB.out⟩

def alikeB (o1 : Bool) (n1 : Nat) (o2 : Bool) (n2 : Nat) : Bool := decide (n1 = 0) && decide (n2 = 0) && (o1 == o2)
set_option maxHeartbeats 1600000 in
theorem alike_any (o1 : Bool) (A1 : Option Addr) (n1 c1 : Nat) (o2 : Bool) (A2 : Option Addr) (n2 c2 : Nat) (w : World) :
    Calls Try.prog 68 #[tv o1 A1 n1 c1, tv o2 A2 n2 c2] w fun e w' => e = .returned (.bool (alikeB o1 n1 o2 n2)) ∧ Below w.heap.size w w' := by
  have hb0 : Below w.heap.size w ((w.alloc (.cells #[.bool o1, .slice A1 n1 c1] 24)).alloc (.cells #[.bool o2, .slice A2 n2 c2] 24)) := ((Below.refl _ w).alloc (Nat.le_refl _) _).alloc (by simp) _
  have hc := pleaf_any o1 A1 n1 c1 ((w.alloc (.cells #[.bool o1, .slice A1 n1 c1] 24)).alloc (.cells #[.bool o2, .slice A2 n2 c2] 24))
  have hc2 := fun W => pleaf_any o2 A2 n2 c2 W
  unfold tv at *
  go_enter Try.func68, Try.ntmps68
  go_wp2_with fail
  refine hc.mono ?_
  rintro e w1 ⟨rfl, hb1⟩
  have HB : Hid (Below w.heap.size w w1) := hb0.trans (hb1.mono (by simp; omega))
  have f0 := (hb1.cell (p := ⟨w.heap.size, 0, none⟩) (by simp; omega)).trans (show _ = some (.bool o1) by simp [go_sem])
  have f2 := (hb1.cell (p := ⟨w.heap.size + 1, 0, none⟩) (by simp)).trans (show _ = some (.bool o2) by simp [go_sem])
  have f3 := (hb1.cell (p := ⟨w.heap.size + 1, 1, none⟩) (by simp)).trans (show _ = some (.slice A2 n2 c2) by simp [go_sem])
  have hs1 : w.heap.size + 2 ≤ w1.heap.size := by have := hb1.size; simpa using this
  clear hb1 hb0 hc
  by_cases h0 : n1 = 0
  · subst h0
    go_wp2_with fail
    refine (hc2 w1).mono ?_
    rintro e w2 ⟨rfl, hb2⟩
    have g0 := (hb2.cell (p := ⟨w.heap.size, 0, none⟩) (by show w.heap.size < _; omega)).trans f0
    have g2 := (hb2.cell (p := ⟨w.heap.size + 1, 0, none⟩) (by show w.heap.size + 1 < _; omega)).trans f2
    have HB2 : Hid (Below w.heap.size w w2) := HB.out.trans (hb2.mono HB.out.size)
    clear hb2 f0 f2 f3 hc2
    by_cases h2 : n2 = 0
    · subst h2
      go_wp2
      go_ret
      exact ⟨ret_bool (by simp [alikeB]), HB2.out⟩
    · have h2b : decide (n2 = 0) = false := decide_eq_false h2
      rw [h2b]
      have HN := Lib.hid h2
      clear h2 h2b
      go_wp2
      go_ret
      exact ⟨ret_bool (by simp [alikeB, HN.out]), HB2.out⟩
  · have h0b : decide (n1 = 0) = false := decide_eq_false h0
    rw [h0b]
    have HN := Lib.hid h0
    clear h0 h0b hc2
    go_wp2
    go_ret
    exact ⟨ret_bool (by simp [alikeB, HN.out]), HB.out⟩

set_option maxRecDepth 100000 in
set_option maxHeartbeats 800000 in
theorem pair_any (x y : Tr) (u v : Value) (w : World) (hx : InT w w.heap.size x u) (hy : InT w w.heap.size y v) : Calls Try.prog 69 #[u, v] w (Trees (.node x y) w) := by
  obtain ⟨o1, A1, n1, c1, rfl⟩ := hx.form
  obtain ⟨o2, A2, n2, c2, rfl⟩ := hy.form
  have HX := Lib.hid hx
  have HY := Lib.hid hy
  clear hx hy
  unfold tv
  go_enter Try.func69, Try.ntmps69
  go_wp2
  refine bodyPost_ret (v := tv false (some ⟨w.heap.size + 1 + 1 + 1, 0, none⟩) 2 2) (by simp [results, Try.f69, go_sem, tv]) rfl ?_
  exact ⟨_, rfl, two_in (four_boxes w _ _ _ _) (by have := heap_alloc_new (((w.alloc (.cells #[.bool o1, .slice A1 n1 c1] 24)).alloc (.cells #[.bool o2, .slice A2 n2 c2] 24)).alloc (.cells #[.bool false, .slice (some ⟨w.heap.size + 1 + 1 + 1, 0, none⟩) 2 2] 24)) (.cells #[.bool o1, .slice A1 n1 c1, .bool o2, .slice A2 n2 c2] 24); simpa only [World.size_alloc] using this) HX.out HY.out, four_boxes w _ _ _ _⟩

theorem InT.leafy {w : World} {B : Nat} {x : Tr} {o : Bool} {A : Option Addr} {n c : Nat} (h : InT w B x (tv o A n c)) : (n = 0 ∧ x = .leaf o) ∨ (n = 2 ∧ o = false ∧ ∃ l r, x = .node l r) := by
  cases x with
  | leaf o' =>
    obtain ⟨A', c', e⟩ := h
    unfold tv at e
    injection e with e
    injection e with e
    injection e with e1 e2
    injection e1 with e1
    injection e2 with e2
    injection e2 with e2 e3 e4
    exact .inl ⟨e3, by rw [e1]⟩
  | node l r =>
    obtain ⟨b, off, c', e, _⟩ := h
    unfold tv at e
    injection e with e
    injection e with e
    injection e with e1 e2
    injection e1 with e1
    injection e2 with e2
    injection e2 with e2 e3 e4
    exact .inr ⟨e3, e1, l, r, rfl⟩
theorem mk2_alike {w : World} {B : Nat} {x y : Tr} {o1 o2 : Bool} {A1 A2 : Option Addr} {n1 n2 c1 c2 : Nat} (hx : InT w B x (tv o1 A1 n1 c1)) (hy : InT w B y (tv o2 A2 n2 c2)) :
    x.mk2 y = if alikeB o1 n1 o2 n2 = true then x else .node x y := by
  rcases hx.leafy with ⟨rfl, rfl⟩ | ⟨rfl, rfl, l, r, rfl⟩
  · rcases hy.leafy with ⟨rfl, rfl⟩ | ⟨rfl, rfl, l, r, rfl⟩
    · by_cases h : o1 = o2 <;> simp [alikeB, Tr.mk2, h]
    · simp [alikeB, Tr.mk2]
  · cases y <;> simp [alikeB, Tr.mk2]

/-- What a function keeps that has boxed two trees, and a tree for its answer. -/
structure JB (w : World) (o1 : Bool) (A1 : Option Addr) (n1 c1 : Nat) (o2 : Bool) (A2 : Option Addr) (n2 c2 : Nat) (W : World) : Prop where
  a0 : W.cell? ⟨w.heap.size, 0, none⟩ = some (.bool o1)
  a1 : W.cell? ⟨w.heap.size, 1, none⟩ = some (.slice A1 n1 c1)
  b0 : W.cell? ⟨w.heap.size + 1, 0, none⟩ = some (.bool o2)
  b1 : W.cell? ⟨w.heap.size + 1, 1, none⟩ = some (.slice A2 n2 c2)
  box : Box0 W (w.heap.size + 1 + 1)
  bel : Below w.heap.size w W
  big : w.heap.size + 3 ≤ W.heap.size
def JW (w : World) (o1 : Bool) (A1 : Option Addr) (n1 c1 : Nat) (o2 : Bool) (A2 : Option Addr) (n2 c2 : Nat) : World :=
  ((w.alloc (.cells #[.bool o1, .slice A1 n1 c1] 24)).alloc (.cells #[.bool o2, .slice A2 n2 c2] 24)).alloc (.cells #[.bool false, .slice none 0 0] 24)
theorem JB.start (w : World) (o1 : Bool) (A1 : Option Addr) (n1 c1 : Nat) (o2 : Bool) (A2 : Option Addr) (n2 c2 : Nat) : JB w o1 A1 n1 c1 o2 A2 n2 c2 (JW w o1 A1 n1 c1 o2 A2 n2 c2) := by
  unfold JW
  refine ⟨by simp [go_sem], by simp [go_sem], by simp [go_sem], by simp [go_sem], ?_, three_boxes w _ _ _, by simp⟩
  have := box_start ((w.alloc (.cells #[.bool o1, .slice A1 n1 c1] 24)).alloc (.cells #[.bool o2, .slice A2 n2 c2] 24))
  simpa only [World.size_alloc] using this
theorem JB.next {w : World} {o1 o2 : Bool} {A1 A2 : Option Addr} {n1 n2 c1 c2 : Nat} {W W' : World} (h : JB w o1 A1 n1 c1 o2 A2 n2 c2 W) {B : Nat} (hb : Below B W W') (hB : w.heap.size + 3 ≤ B) : JB w o1 A1 n1 c1 o2 A2 n2 c2 W' :=
  ⟨(hb.cell (by show w.heap.size < _; omega)).trans h.a0, (hb.cell (by show w.heap.size < _; omega)).trans h.a1, (hb.cell (by show w.heap.size + 1 < _; omega)).trans h.b0, (hb.cell (by show w.heap.size + 1 < _; omega)).trans h.b1, h.box.below hb (by omega), h.bel.trans (hb.mono (by omega)), Nat.le_trans h.big hb.size⟩

set_option maxRecDepth 100000 in
set_option maxHeartbeats 1600000 in
theorem join_any (x y : Tr) (u v : Value) (w : World) (hx : InT w w.heap.size x u) (hy : InT w w.heap.size y v) : Calls Try.prog 63 #[u, v] w (Trees (x.mk2 y) w) := by
  obtain ⟨o1, A1, n1, c1, rfl⟩ := hx.form
  obtain ⟨o2, A2, n2, c2, rfl⟩ := hy.form
  have HM := Lib.hid (mk2_alike hx hy)
  have HX := Lib.hid hx
  have HY := Lib.hid hy
  have HJ := Lib.hid (JB.start w o1 A1 n1 c1 o2 A2 n2 c2)
  have hc := alike_any o1 A1 n1 c1 o2 A2 n2 c2 (JW w o1 A1 n1 c1 o2 A2 n2 c2)
  have hc2 := fun W (h : Below w.heap.size w W) => pair_any x y _ _ W (HX.out.up h) (HY.out.up h)
  unfold JW at hc HJ
  unfold tv at hc hc2 ⊢
  clear hx hy
  go_enter Try.func63, Try.ntmps63
  go_wp2_with fail
  refine hc.mono ?_
  rintro e w1 ⟨rfl, hb1⟩
  have HJ1 := HJ.out.next hb1 HJ.out.big
  clear hb1 hc HJ
  obtain ⟨a0, a1, b0, b1, hbox, hbel, hbig⟩ := HJ1
  by_cases h : alikeB o1 n1 o2 n2 = true
  · rw [h] at HM ⊢
    have HM' : Hid (x.mk2 y = x) := by show _ = _; rw [HM.out]; rfl
    obtain ⟨⟨c0, c1'⟩, f0, f1⟩ := hbox.facts
    have HFIN : Hid (∀ u1 u2, InT ((w1.setCell ⟨w.heap.size + 1 + 1, 0, none⟩ u1).setCell ⟨w.heap.size + 1 + 1, 1, none⟩ u2) ((w1.setCell ⟨w.heap.size + 1 + 1, 0, none⟩ u1).setCell ⟨w.heap.size + 1 + 1, 1, none⟩ u2).heap.size x (tv o1 A1 n1 c1) ∧ Below w.heap.size w ((w1.setCell ⟨w.heap.size + 1 + 1, 0, none⟩ u1).setCell ⟨w.heap.size + 1 + 1, 1, none⟩ u2)) := fun u1 u2 => store_in hbox (HX.out.up hbel) hbel (by omega)
    clear hbox hbel hbig hc2 HM
    go_wp2
    refine bodyPost_ret (v := tv o1 A1 n1 c1) (by simp [results, Try.f63, go_sem, tv, c0, c1']) rfl ?_
    refine ⟨_, rfl, ?_, (HFIN.out _ _).2⟩
    rw [HM'.out]; exact (HFIN.out _ _).1
  · have hf : alikeB o1 n1 o2 n2 = false := by simpa using h
    rw [hf] at HM ⊢
    have HM' : Hid (x.mk2 y = .node x y) := by show _ = _; rw [HM.out]; rfl
    have hcall := hc2 w1 hbel
    have HBX := Lib.hid hbox
    have HBL := Lib.hid hbel
    have HG := Lib.hid hbig
    clear hbox hbel hbig hc2 HM h hf
    go_wp2_with fail
    refine hcall.mono ?_
    rintro e w5 ⟨v3, rfl, ht3, hb5⟩
    obtain ⟨o5, A5, n5, c5, rfl⟩ := ht3.form
    have HBX5 := HBX.out.below hb5 (by have := HG.out; omega)
    obtain ⟨⟨c0, c1'⟩, f0, f1⟩ := HBX5.facts
    have HFIN : Hid (∀ u1 u2, InT ((w5.setCell ⟨w.heap.size + 1 + 1, 0, none⟩ u1).setCell ⟨w.heap.size + 1 + 1, 1, none⟩ u2) ((w5.setCell ⟨w.heap.size + 1 + 1, 0, none⟩ u1).setCell ⟨w.heap.size + 1 + 1, 1, none⟩ u2).heap.size (.node x y) (tv o5 A5 n5 c5) ∧ Below w.heap.size w ((w5.setCell ⟨w.heap.size + 1 + 1, 0, none⟩ u1).setCell ⟨w.heap.size + 1 + 1, 1, none⟩ u2)) := fun u1 u2 => store_in HBX5 ht3 (HBL.out.trans (hb5.mono HBL.out.size)) (by omega)
    clear hb5 HBX5 ht3 hcall a0 a1 b0 b1
    unfold tv
    go_wp2
    refine bodyPost_ret (v := tv o5 A5 n5 c5) (by simp [results, Try.f63, go_sem, tv, c0, c1']) rfl ?_
    refine ⟨_, rfl, ?_, (HFIN.out _ _).2⟩
    rw [HM'.out]; exact (HFIN.out _ _).1
end Go.Proofs.Ytkpefelakhbkhaa.I
