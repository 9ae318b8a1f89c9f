/-
  pair, join, norm once more: the trees that they make lie in blocks that have a property, if all new blocks have it.
-/
import Derived.Test.YtkpefelakhbkhaaIOps
namespace Go.Proofs.Ytkpefelakhbkhaa.I
open Go.RowKit

/-- A right tree in memory, in blocks that have a property. -/
def InP (P : Nat → Prop) (w : World) (B : Nat) : Tr → Value → Prop
  | .leaf o, v => ∃ A c, v = tv o A 0 c
  | .node x y, v => ∃ b off c, v = tv false (some ⟨b, off, none⟩) 2 c ∧ (b < B ∧ P b) ∧
      (∃ o A n c, w.cell? ⟨b, off, none⟩ = some (.bool o) ∧ w.cell? ⟨b, off + 1, none⟩ = some (.slice A n c) ∧ InP P w B x (tv o A n c)) ∧
      (∃ o A n c, w.cell? ⟨b, off + 2, none⟩ = some (.bool o) ∧ w.cell? ⟨b, off + 3, none⟩ = some (.slice A n c) ∧ InP P w B y (tv o A n c))
theorem InP.keep {P : Nat → Prop} {w w' : World} {B : Nat} (hk : ∀ p : Addr, p.block < B → P p.block → w'.cell? p = w.cell? p) : ∀ {t : Tr} {v : Value}, InP P w B t v → InP P w' B t v
  | .leaf _, _, h => h
  | .node _ _, _, ⟨b, off, c, e, hb, ⟨o1, A1, n1, c1, h1, h2, h3⟩, ⟨o2, A2, n2, c2, g1, g2, g3⟩⟩ =>
    ⟨b, off, c, e, hb, ⟨o1, A1, n1, c1, (hk _ hb.1 hb.2).trans h1, (hk _ hb.1 hb.2).trans h2, h3.keep hk⟩, ⟨o2, A2, n2, c2, (hk _ hb.1 hb.2).trans g1, (hk _ hb.1 hb.2).trans g2, g3.keep hk⟩⟩
theorem InP.more {P Q : Nat → Prop} {w : World} {B B' : Nat} (hB : ∀ k, k < B → P k → k < B' ∧ Q k) : ∀ {t : Tr} {v : Value}, InP P w B t v → InP Q w B' t v
  | .leaf _, _, h => h
  | .node _ _, _, ⟨b, off, c, e, hb, ⟨o1, A1, n1, c1, h1, h2, h3⟩, ⟨o2, A2, n2, c2, g1, g2, g3⟩⟩ =>
    ⟨b, off, c, e, hB b hb.1 hb.2, ⟨o1, A1, n1, c1, h1, h2, h3.more hB⟩, ⟨o2, A2, n2, c2, g1, g2, g3.more hB⟩⟩
theorem InP.toT {P : Nat → Prop} {w : World} {B : Nat} : ∀ {t : Tr} {v : Value}, InP P w B t v → InT w B t v
  | .leaf _, _, h => h
  | .node _ _, _, ⟨b, off, c, e, hb, ⟨o1, A1, n1, c1, h1, h2, h3⟩, ⟨o2, A2, n2, c2, g1, g2, g3⟩⟩ =>
    ⟨b, off, c, e, hb.1, ⟨o1, A1, n1, c1, h1, h2, h3.toT⟩, ⟨o2, A2, n2, c2, g1, g2, g3.toT⟩⟩
theorem InP.up {P : Nat → Prop} {w w' : World} {t : Tr} {v : Value} (h : InP P w w.heap.size t v) (hb : Below w.heap.size w w') : InP P w' w'.heap.size t v := (h.keep fun _ hp _ => hb.cell hp).more fun _ h1 h2 => ⟨Nat.lt_of_lt_of_le h1 hb.size, h2⟩
theorem InP.form {P : Nat → Prop} {w : World} {B : Nat} {t : Tr} {v : Value} (h : InP P w B t v) : ∃ o A n c, v = tv o A n c := h.toT.form
theorem InP.leafy {P : Nat → Prop} {w : World} {B : Nat} {x : Tr} {o : Bool} {A : Option Addr} {n c : Nat} (h : InP P w B x (tv o A n c)) : (n = 0 ∧ x = .leaf o) ∨ (n = 2 ∧ o = false ∧ ∃ l r, x = .node l r) := h.toT.leafy
theorem InP.set2 {P : Nat → Prop} {w : World} {B g i : Nat} {u : Value} (h2 : Box2 w g) : ∀ {t : Tr} {v : Value}, InP P w B t v → InP P (w.setCell ⟨g, i, none⟩ u) B t v
  | .leaf _, _, h => h
  | .node _ _, _, ⟨b, off, c, e, hb, ⟨o1, A1, n1, c1, k1, k2, k3⟩, ⟨o2, A2, n2, c2, g1, g2, g3⟩⟩ => by
    have hne : b ≠ g := by
      rintro rfl
      rw [h2.off (by omega)] at g1; cases g1
    have hk : ∀ j, (w.setCell ⟨g, i, none⟩ u).cell? ⟨b, j, none⟩ = w.cell? ⟨b, j, none⟩ := fun j => World.cell?_setCell_other _ _ _ _ (fun e => by injection e with e1 _ _; exact hne e1.symm)
    exact ⟨b, off, c, e, hb, ⟨o1, A1, n1, c1, (hk _).trans k1, (hk _).trans k2, InP.set2 h2 k3⟩, ⟨o2, A2, n2, c2, (hk _).trans g1, (hk _).trans g2, InP.set2 h2 g3⟩⟩
theorem zero_inP (P : Nat → Prop) (w : World) (B : Nat) : InP P w B (.leaf false) (tv false none 0 0) := ⟨none, 0, rfl⟩
/-- All new blocks have the property. -/
def New (P : Nat → Prop) (w : World) : Prop := ∀ k, w.heap.size ≤ k → P k
theorem New.up {P : Nat → Prop} {w w' : World} (h : New P w) {B : Nat} (hb : Below B w w') : New P w' := fun k hk => h k (Nat.le_trans hb.size hk)
def TreesP (P : Nat → Prop) (t : Tr) (w : World) (e : Ending) (w' : World) : Prop := ∃ v, e = .returned v ∧ InP P w' w'.heap.size t v ∧ Below w.heap.size w w'
def TwoP (P : Nat → Prop) (r : Tr × Tr) (w : World) (e : Ending) (w' : World) : Prop := ∃ v1 v2, e = .returned (.tuple #[v1, v2]) ∧ InP P w' w'.heap.size r.1 v1 ∧ InP P w' w'.heap.size r.2 v2 ∧ Below w.heap.size w w'
theorem two_inP {P : Nat → Prop} {w W : World} {x y : Tr} {o1 o2 : Bool} {A1 A2 : Option Addr} {n1 n2 c1 c2 g : Nat} (hn : New P w) (hgn : w.heap.size ≤ g) (hb : Below w.heap.size w W) (hg : W.heap[g]? = some (.cells #[.bool o1, .slice A1 n1 c1, .bool o2, .slice A2 n2 c2] 24 (0, 0))) (hx : InP P w w.heap.size x (tv o1 A1 n1 c1)) (hy : InP P w w.heap.size y (tv o2 A2 n2 c2)) :
    InP P W W.heap.size (.node x y) (tv false (some ⟨g, 0, none⟩) 2 2) := by
  refine ⟨g, 0, 2, rfl, ⟨(Array.getElem?_eq_some_iff.1 hg).1, hn g hgn⟩, ⟨o1, A1, n1, c1, ?_, ?_, hx.up hb⟩, ⟨o2, A2, n2, c2, ?_, ?_, hy.up hb⟩⟩
  · rw [cell_of_row W g 0 _ 24 (0, 0) hg]; rfl
  · rw [cell_of_row W g 1 _ 24 (0, 0) hg]; rfl
  · rw [cell_of_row W g 2 _ 24 (0, 0) hg]; rfl
  · rw [cell_of_row W g 3 _ 24 (0, 0) hg]; rfl
theorem store_inP {P : Nat → Prop} {w W : World} {B g : Nat} {t : Tr} {v u1 u2 : Value} (hg : Box0 W g) (h : InP P W W.heap.size t v) (hb : Below B w W) (hB : B ≤ g) : InP P ((W.setCell ⟨g, 0, none⟩ u1).setCell ⟨g, 1, none⟩ u2) ((W.setCell ⟨g, 0, none⟩ u1).setCell ⟨g, 1, none⟩ u2).heap.size t v ∧ Below B w ((W.setCell ⟨g, 0, none⟩ u1).setCell ⟨g, 1, none⟩ u2) := by
  refine ⟨?_, (hb.setCell (p := ⟨g, 0, none⟩) hB _).setCell (p := ⟨g, 1, none⟩) hB _⟩
  have h1 := InP.set2 (i := 1) (u := u2) (hg.two.set u1) (InP.set2 (i := 0) (u := u1) hg.two h)
  have e : ((W.setCell ⟨g, 0, none⟩ u1).setCell ⟨g, 1, none⟩ u2).heap.size = W.heap.size := by simp
  rw [e]; exact h1
theorem store_twoP {P : Nat → Prop} {w W : World} {B g : Nat} {t : Tr} {v u1 u2 : Value} (hg : Box2 W g) (h : InP P W W.heap.size t v) (hb : Below B w W) (hB : B ≤ g) : InP P ((W.setCell ⟨g, 0, none⟩ u1).setCell ⟨g, 1, none⟩ u2) ((W.setCell ⟨g, 0, none⟩ u1).setCell ⟨g, 1, none⟩ u2).heap.size t v ∧ Below B w ((W.setCell ⟨g, 0, none⟩ u1).setCell ⟨g, 1, none⟩ u2) := by
  refine ⟨?_, (hb.setCell (p := ⟨g, 0, none⟩) hB _).setCell (p := ⟨g, 1, none⟩) hB _⟩
  have h1 := InP.set2 (i := 1) (u := u2) (hg.set u1) (InP.set2 (i := 0) (u := u1) hg h)
  have e : ((W.setCell ⟨g, 0, none⟩ u1).setCell ⟨g, 1, none⟩ u2).heap.size = W.heap.size := by simp
  rw [e]; exact h1

set_option maxRecDepth 100000 in
set_option maxHeartbeats 800000 in
theorem pair_new_in {P : Nat → Prop} (x y : Tr) (u v : Value) (w : World) (hN : New P w) (hx : InP P w w.heap.size x u) (hy : InP P w w.heap.size y v) : Calls Try.prog 69 #[u, v] w (TreesP P (.node x y) w) := by
  obtain ⟨o1, A1, n1, c1, rfl⟩ := hx.form
  obtain ⟨o2, A2, n2, c2, rfl⟩ := hy.form
  have HNW := Lib.hid hN
  have HX := Lib.hid hx
  have HY := Lib.hid hy
  clear hx hy hN
  unfold tv
  go_enter Try.func69, Try.ntmps69
  go_wp2
  refine bodyPost_ret (v := tv false (some ⟨w.heap.size + 1 + 1 + 1, 0, none⟩) 2 2) (by simp [results, Try.f69, go_sem, tv]) rfl ?_
  exact ⟨_, rfl, two_inP HNW.out (by omega) (four_boxes w _ _ _ _) (by have := heap_alloc_new (((w.alloc (.cells #[.bool o1, .slice A1 n1 c1] 24)).alloc (.cells #[.bool o2, .slice A2 n2 c2] 24)).alloc (.cells #[.bool false, .slice (some ⟨w.heap.size + 1 + 1 + 1, 0, none⟩) 2 2] 24)) (.cells #[.bool o1, .slice A1 n1 c1, .bool o2, .slice A2 n2 c2] 24); simpa only [World.size_alloc] using this) HX.out HY.out, four_boxes w _ _ _ _⟩

set_option maxRecDepth 100000 in
set_option maxHeartbeats 1600000 in
theorem join_new (P : Nat → Prop) (x y : Tr) (u v : Value) (w : World) (hN : New P w) (hx : InP P w w.heap.size x u) (hy : InP P w w.heap.size y v) : Calls Try.prog 63 #[u, v] w (TreesP P (x.mk2 y) w) := by
  obtain ⟨o1, A1, n1, c1, rfl⟩ := hx.form
  obtain ⟨o2, A2, n2, c2, rfl⟩ := hy.form
  have HM := Lib.hid (mk2_alike hx.toT hy.toT)
  have HNW := Lib.hid hN
  have HX := Lib.hid hx
  have HY := Lib.hid hy
  have HJ := Lib.hid (JB.start w o1 A1 n1 c1 o2 A2 n2 c2)
  have hc := alike_any o1 A1 n1 c1 o2 A2 n2 c2 (JW w o1 A1 n1 c1 o2 A2 n2 c2)
  have hc2 := fun W (h : Below w.heap.size w W) => pair_new_in x y _ _ W (HNW.out.up h) (HX.out.up h) (HY.out.up h)
  unfold JW at hc HJ
  unfold tv at hc hc2 ⊢
  clear hx hy hN
  go_enter Try.func63, Try.ntmps63
  go_wp2_with fail
  refine hc.mono ?_
  rintro e w1 ⟨rfl, hb1⟩
  have HJ1 := HJ.out.next hb1 HJ.out.big
  clear hb1 hc HJ
  obtain ⟨a0, a1, b0, b1, hbox, hbel, hbig⟩ := HJ1
  by_cases h : alikeB o1 n1 o2 n2 = true
  · rw [h] at HM ⊢
    have HM' : Hid (x.mk2 y = x) := by show _ = _; rw [HM.out]; rfl
    obtain ⟨⟨c0, c1'⟩, f0, f1⟩ := hbox.facts
    have HFIN : Hid (∀ u1 u2, InP P ((w1.setCell ⟨w.heap.size + 1 + 1, 0, none⟩ u1).setCell ⟨w.heap.size + 1 + 1, 1, none⟩ u2) ((w1.setCell ⟨w.heap.size + 1 + 1, 0, none⟩ u1).setCell ⟨w.heap.size + 1 + 1, 1, none⟩ u2).heap.size x (tv o1 A1 n1 c1) ∧ Below w.heap.size w ((w1.setCell ⟨w.heap.size + 1 + 1, 0, none⟩ u1).setCell ⟨w.heap.size + 1 + 1, 1, none⟩ u2)) := fun u1 u2 => store_inP hbox (HX.out.up hbel) hbel (by omega)
    clear hbox hbel hbig hc2 HM
    go_wp2
    refine bodyPost_ret (v := tv o1 A1 n1 c1) (by simp [results, Try.f63, go_sem, tv, c0, c1']) rfl ?_
    refine ⟨_, rfl, ?_, (HFIN.out _ _).2⟩
    rw [HM'.out]; exact (HFIN.out _ _).1
  · have hf : alikeB o1 n1 o2 n2 = false := by simpa using h
    rw [hf] at HM ⊢
    have HM' : Hid (x.mk2 y = .node x y) := by show _ = _; rw [HM.out]; rfl
    have hcall := hc2 w1 hbel
    have HBX := Lib.hid hbox
    have HBL := Lib.hid hbel
    have HG := Lib.hid hbig
    clear hbox hbel hbig hc2 HM h hf
    go_wp2_with fail
    refine hcall.mono ?_
    rintro e w5 ⟨v3, rfl, ht3, hb5⟩
    obtain ⟨o5, A5, n5, c5, rfl⟩ := ht3.form
    have HBX5 := HBX.out.below hb5 (by have := HG.out; omega)
    obtain ⟨⟨c0, c1'⟩, f0, f1⟩ := HBX5.facts
    have HFIN : Hid (∀ u1 u2, InP P ((w5.setCell ⟨w.heap.size + 1 + 1, 0, none⟩ u1).setCell ⟨w.heap.size + 1 + 1, 1, none⟩ u2) ((w5.setCell ⟨w.heap.size + 1 + 1, 0, none⟩ u1).setCell ⟨w.heap.size + 1 + 1, 1, none⟩ u2).heap.size (.node x y) (tv o5 A5 n5 c5) ∧ Below w.heap.size w ((w5.setCell ⟨w.heap.size + 1 + 1, 0, none⟩ u1).setCell ⟨w.heap.size + 1 + 1, 1, none⟩ u2)) := fun u1 u2 => store_inP HBX5 ht3 (HBL.out.trans (hb5.mono HBL.out.size)) (by omega)
    clear hb5 HBX5 ht3 hcall a0 a1 b0 b1
    unfold tv
    go_wp2
    refine bodyPost_ret (v := tv o5 A5 n5 c5) (by simp [results, Try.f63, go_sem, tv, c0, c1']) rfl ?_
    refine ⟨_, rfl, ?_, (HFIN.out _ _).2⟩
    rw [HM'.out]; exact (HFIN.out _ _).1
set_option maxRecDepth 100000 in
set_option maxHeartbeats 3200000 in
theorem norm_new (P : Nat → Prop) : ∀ (t : Tr) (v : Value) (w : World), New P w → InT w w.heap.size t v → Calls Try.prog 36 #[v] w (TreesP P t.norm w) := by
  intro t
  induction t with
  | leaf o =>
    rintro v w hN ⟨A, c, rfl⟩
    have HN := Lib.hid (NB.start w o A 0 c)
    have hc := pleaf_any o A 0 c ((w.alloc (.cells #[.bool o, .slice A 0 c] 24)).alloc (.cells #[.bool false, .slice none 0 0] 24))
    unfold tv at hc ⊢
    go_enter Try.func36, Try.ntmps36
    go_wp2_with fail
    refine hc.mono ?_
    rintro e w1 ⟨rfl, hb1⟩
    obtain ⟨a0, a1, hbox, hbel, hbig⟩ := HN.out.next hb1 (by simp)
    obtain ⟨u0, u1, ⟨c0, c1'⟩, f0, f1⟩ := hbox.facts
    have HFIN : Hid (∀ u1 u2, InP P ((w1.setCell ⟨w.heap.size + 1, 0, none⟩ u1).setCell ⟨w.heap.size + 1, 1, none⟩ u2) ((w1.setCell ⟨w.heap.size + 1, 0, none⟩ u1).setCell ⟨w.heap.size + 1, 1, none⟩ u2).heap.size (.leaf o) (tv o none 0 0) ∧ Below w.heap.size w ((w1.setCell ⟨w.heap.size + 1, 0, none⟩ u1).setCell ⟨w.heap.size + 1, 1, none⟩ u2)) := fun u1 u2 => store_twoP hbox ⟨none, 0, rfl⟩ hbel (by omega)
    clear hb1 hbox hbel hbig hc HN
    go_wp2
    refine bodyPost_ret (v := tv o none 0 0) (by simp [results, Try.f36, go_sem, tv, c0, c1']) rfl ?_
    exact ⟨_, rfl, (HFIN.out _ _).1, (HFIN.out _ _).2⟩
  | node x y ihx ihy =>
    rintro v w hN ⟨b, off, c, rfl, hb, ⟨o1, A1, n1, c1, e1, e2, e3⟩, ⟨o2, A2, n2, c2, g1, g2, g3⟩⟩
    have HN := Lib.hid (NB.start w false (some ⟨b, off, none⟩) 2 c)
    have hc := pleaf_any false (some ⟨b, off, none⟩) 2 c ((w.alloc (.cells #[.bool false, .slice (some ⟨b, off, none⟩) 2 c] 24)).alloc (.cells #[.bool false, .slice none 0 0] 24))
    have HF : Hid (∀ W, NB w false (some ⟨b, off, none⟩) 2 c W → W.cell? ⟨w.heap.size, 1, none⟩ = some (.slice (some ⟨b, off, none⟩) 2 c) ∧ W.cell? ⟨b, off, none⟩ = some (.bool o1) ∧ W.cell? ⟨b, off + 1, none⟩ = some (.slice A1 n1 c1) ∧ W.cell? ⟨b, off + 2, none⟩ = some (.bool o2) ∧ W.cell? ⟨b, off + 2 + 1, none⟩ = some (.slice A2 n2 c2)) := fun W hW => by
      have low : ∀ i, W.cell? ⟨b, i, none⟩ = w.cell? ⟨b, i, none⟩ := fun i => hW.bel.cell hb
      exact ⟨hW.a1, (low _).trans e1, (low _).trans e2, (low _).trans g1, (low _).trans g2⟩
    have hcx : ∀ W, NB w false (some ⟨b, off, none⟩) 2 c W → Calls Try.prog 36 #[.agg #[.bool o1, .slice A1 n1 c1]] W (TreesP P x.norm W) := fun W hW => ihx _ W (hN.up hW.bel) (e3.up hW.bel)
    have hcy : ∀ W, NB w false (some ⟨b, off, none⟩) 2 c W → Calls Try.prog 36 #[.agg #[.bool o2, .slice A2 n2 c2]] W (TreesP P y.norm W) := fun W hW => ihy _ W (hN.up hW.bel) (g3.up hW.bel)
    unfold tv at hc ⊢
    have HNW := Lib.hid hN
    clear ihx ihy e1 e2 e3 g1 g2 g3 hN
    go_enter Try.func36, Try.ntmps36
    go_wp2_with fail
    refine hc.mono ?_
    rintro e w1 ⟨rfl, hb1⟩
    have HN1 := HN.out.next hb1 (by simp)
    clear hb1 hc HN
    go_wp2
    refine wp_region_held_drew (S := fun W => NB w false (some ⟨b, off, none⟩) 2 c W) (by kernel_rfl) HN1.drew (fun hS => ?_)
    clear HN1
    refine wpAnyH_take (i := 0) (v := ?_) rfl (by kernel_rfl) (by kernel_rfl) (by kernel_rfl) (fun _ _ _ h => h) (Yields.yieldsIf (Or.inl ⟨by kernel_rfl, ?_⟩)) hS ?_
    rotate_left
    · first | (intro w; go_simp; done) | (intro w; go_simp; with_reducible rfl)
    refine wpAnyH_take (i := 1) (v := ?_) rfl (by kernel_rfl) (by kernel_rfl) (by kernel_rfl) (fun _ _ _ h => h) (Or.inl ⟨by kernel_rfl, fun W hW => ?_⟩) hS ?_
    rotate_left
    · obtain ⟨f0, f1, f2, f3, f4⟩ := HF.out W hW
      first | (go_simp; done) | (go_simp; with_reducible rfl)
    refine wpAnyH_take (i := 2) (v := ?_) rfl (by kernel_rfl) (by kernel_rfl) (by kernel_rfl) (fun _ _ _ h => h) (Yields.yieldsIf (Or.inl ⟨by kernel_rfl, ?_⟩)) hS ?_
    rotate_left
    · first | (intro w; go_simp; done) | (intro w; go_simp; with_reducible rfl)
    refine wpAnyH_take (i := 3) (v := ?_) rfl (by kernel_rfl) (by kernel_rfl) (by kernel_rfl) (fun _ _ _ h => h) (Or.inl ⟨by kernel_rfl, fun W hW => ?_⟩) hS ?_
    rotate_left
    · obtain ⟨f0, f1, f2, f3, f4⟩ := HF.out W hW
      first | (go_simp; done) | (go_simp; with_reducible rfl)
    refine wpAnyH_take (i := 5) (v := ?_) rfl (by kernel_rfl) (by kernel_rfl) (by kernel_rfl) (fun _ _ _ h => h) (Yields.yieldsIf (Or.inl ⟨by kernel_rfl, ?_⟩)) hS ?_
    rotate_left
    · first | (intro w; go_simp; done) | (intro w; go_simp; with_reducible rfl)
    refine wpAnyH_take (i := 6) (v := ?_) rfl (by kernel_rfl) (by kernel_rfl) (by kernel_rfl) (fun _ _ _ h => h) (Or.inl ⟨by kernel_rfl, fun W hW => ?_⟩) hS ?_
    rotate_left
    · obtain ⟨f0, f1, f2, f3, f4⟩ := HF.out W hW
      first | (go_simp; done) | (go_simp; with_reducible rfl)
    refine wpAnyH_take (i := 7) (v := ?_) rfl (by kernel_rfl) (by kernel_rfl) (by kernel_rfl) (fun _ _ _ h => h) (Yields.yieldsIf (Or.inl ⟨by kernel_rfl, ?_⟩)) hS ?_
    rotate_left
    · first | (intro w; go_simp; done) | (intro w; go_simp; with_reducible rfl)
    refine wpAnyH_take (i := 8) (v := ?_) rfl (by kernel_rfl) (by kernel_rfl) (by kernel_rfl) (fun _ _ _ h => h) (Or.inl ⟨by kernel_rfl, fun W hW => ?_⟩) hS ?_
    rotate_left
    · obtain ⟨f0, f1, f2, f3, f4⟩ := HF.out W hW
      first | (go_simp; done) | (go_simp; with_reducible rfl)
    refine wpAnyH_ready (rs := [4]) (by kernel_rfl) (by simp) ?_
    refine AllReadyH.cons rfl (fun K hK => ?_) AllReadyH.nil
    go_simp
    go_wp2_with (go_at_call 36; refine (hcx _ hS).mono ?_; rintro e w3 ⟨v1, rfl, ht1, hb3⟩)
    have hS3 := hS.next hb3 hS.big
    have HT1 := Lib.hid ht1
    clear hb3 ht1 hS
    refine hK.out _ _ hS3 (fun hS => ?_)
    clear hK K hS3
    refine wpAnyH_ready (rs := [9]) (by kernel_rfl) (by simp) ?_
    refine AllReadyH.cons rfl (fun K hK => ?_) AllReadyH.nil
    go_simp
    go_wp2_with (go_at_call 36; refine (hcy _ hS).mono ?_; rintro e w4 ⟨v2, rfl, ht2, hb4⟩)
    have hS3 := hS.next hb4 hS.big
    have HT2 := Lib.hid (HT1.out.up hb4)
    have HT3 := Lib.hid ht2
    clear hb4 ht2 hS
    refine hK.out _ _ hS3 (fun hS => ?_)
    clear hK K hS3
    clear HT1 hcx hcy
    refine wpAnyH_ready (rs := [10]) (by kernel_rfl) (by simp) ?_
    refine AllReadyH.cons rfl (fun K hK => ?_) AllReadyH.nil
    go_simp
    go_wp2_with (go_at_call 63; refine (join_new P _ _ _ _ _ (HNW.out.up hS.bel) HT2.out HT3.out).mono ?_; rintro e w5 ⟨v3, rfl, ht3, hb5⟩)
    have hS3 := hS.next hb5 hS.big
    have HT4 := Lib.hid ht3
    clear hb5 ht3 hS
    refine hK.out _ _ hS3 (fun hS => ?_)
    clear hK K hS3
    clear HT2 HT3
    obtain ⟨o5, A5, n5, c5, rfl⟩ := HT4.out.form
    have HS := Lib.hid hS
    obtain ⟨a0, a1, hbox, hbel, hbig⟩ := hS
    obtain ⟨u0, u1, ⟨c0, c1'⟩, f0, f1⟩ := hbox.facts
    have HFIN : Hid (∀ u1 u2, InP P ((w5.setCell ⟨w.heap.size + 1, 0, none⟩ u1).setCell ⟨w.heap.size + 1, 1, none⟩ u2) ((w5.setCell ⟨w.heap.size + 1, 0, none⟩ u1).setCell ⟨w.heap.size + 1, 1, none⟩ u2).heap.size (x.norm.mk2 y.norm) (tv o5 A5 n5 c5) ∧ Below w.heap.size w ((w5.setCell ⟨w.heap.size + 1, 0, none⟩ u1).setCell ⟨w.heap.size + 1, 1, none⟩ u2)) := fun u1 u2 => store_twoP hbox HT4.out hbel (by omega)
    clear hbox hbel hbig HT4 a0 a1
    unfold tv
    refine wpAnyH_ready (rs := [11]) (by kernel_rfl) (by simp) ?_
    refine AllReadyH.cons rfl (fun K hK => ?_) AllReadyH.nil
    go_simp
    go_wp2
    refine hK.out _ _ ((HS.out.store 0 _).store 1 _) (fun _ => ?_)
    clear hK K HS
    refine wpAnyH_done (by kernel_rfl) ?_ _
    go_wp2
    refine bodyPost_ret (v := tv o5 A5 n5 c5) (by simp [results, Try.f36, go_sem, tv, c0, c1']) rfl ?_
    exact ⟨_, rfl, (HFIN.out _ _).1, (HFIN.out _ _).2⟩
end Go.Proofs.Ytkpefelakhbkhaa.I
