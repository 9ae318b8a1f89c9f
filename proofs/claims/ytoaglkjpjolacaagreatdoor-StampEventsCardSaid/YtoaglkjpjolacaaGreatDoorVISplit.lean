/-
  The program's split.
-/
import Derived.Test.YtoaglkjpjolacaaGreatDoorVI2
namespace Go.Proofs.YtoaglkjpjolacaaGreatDoor.I
open Go.RowKit
/-- A normal form's two parts. -/
def splitT : Tr → Tr × Tr
  | .leaf false => (.leaf false, .leaf false)
  | .leaf true => (.node (.leaf true) (.leaf false), .node (.leaf false) (.leaf true))
  | .node (.leaf false) y => (.node (.leaf false) (splitT y).1, .node (.leaf false) (splitT y).2)
  | .node x (.leaf false) => (.node (splitT x).1 (.leaf false), .node (splitT x).2 (.leaf false))
  | .node x y => (.node x (.leaf false), .node (.leaf false) y)
/-- Two trees. -/
def Two (r : Tr × Tr) (w : World) (e : Ending) (w' : World) : Prop := ∃ v1 v2, e = .returned (.tuple #[v1, v2]) ∧ InT w' w'.heap.size r.1 v1 ∧ InT w' w'.heap.size r.2 v2 ∧ Below w.heap.size w w'

structure SB (w : World) (o : Bool) (A : Option Addr) (n c : Nat) (W : World) : Prop where
  a0 : W.cell? ⟨w.heap.size, 0, none⟩ = some (.bool o)
  a1 : W.cell? ⟨w.heap.size, 1, none⟩ = some (.slice A n c)
  r1 : Box2 W (w.heap.size + 1)
  r2 : Box2 W (w.heap.size + 1 + 1)
  z0 : W.cell? ⟨w.heap.size + 1 + 1 + 1, 0, none⟩ = some (.bool false)
  z1 : W.cell? ⟨w.heap.size + 1 + 1 + 1, 1, none⟩ = some (.slice none 0 0)
  u0 : W.cell? ⟨w.heap.size + 1 + 1 + 1 + 1, 0, none⟩ = some (.bool true)
  u1 : W.cell? ⟨w.heap.size + 1 + 1 + 1 + 1, 1, none⟩ = some (.slice none 0 0)
  bel : Below w.heap.size w W
  big : w.heap.size + 5 ≤ W.heap.size
def SW (w : World) (o : Bool) (A : Option Addr) (n c : Nat) : World :=
  ((((w.alloc (.cells #[.bool o, .slice A n c] 24)).alloc (.cells #[.bool false, .slice none 0 0] 24)).alloc (.cells #[.bool false, .slice none 0 0] 24)).alloc (.cells #[.bool false, .slice none 0 0] 24)).alloc (.cells #[.bool true, .slice none 0 0] 24)
theorem SB.start (w : World) (o : Bool) (A : Option Addr) (n c : Nat) : SB w o A n c (SW w o A n c) := by
  unfold SW
  refine ⟨by simp [go_sem], by simp [go_sem], ?_, ?_, by simp [go_sem], by simp [go_sem], by simp [go_sem], by simp [go_sem], (four_boxes w _ _ _ _).alloc (by simp; omega) _, by simp⟩
  · have h := (box_start (w.alloc (.cells #[.bool o, .slice A n c] 24))).two
    rw [World.size_alloc] at h
    exact ((h.below ((Below.refl _ _).alloc (Nat.le_refl _) _) (by simp)).below ((Below.refl _ _).alloc (Nat.le_refl _) _) (by simp <;> omega)).below ((Below.refl _ _).alloc (Nat.le_refl _) _) (by simp <;> omega)
  · have h := (box_start ((w.alloc (.cells #[.bool o, .slice A n c] 24)).alloc (.cells #[.bool false, .slice none 0 0] 24))).two
    simp only [World.size_alloc] at h
    exact (h.below ((Below.refl _ _).alloc (Nat.le_refl _) _) (by simp)).below ((Below.refl _ _).alloc (Nat.le_refl _) _) (by simp <;> omega)
section
variable {w : World} {o : Bool} {A : Option Addr} {n c : Nat} {W : World}
theorem SB.next {W' : World} (h : SB w o A n c W) {B : Nat} (hb : Below B W W') (hB : w.heap.size + 5 ≤ B) : SB w o A n c W' :=
  ⟨(hb.cell (by show w.heap.size < _; omega)).trans h.a0, (hb.cell (by show w.heap.size < _; omega)).trans h.a1, h.r1.below hb (by omega), h.r2.below hb (by omega),
   (hb.cell (by show w.heap.size + 1 + 1 + 1 < _; omega)).trans h.z0, (hb.cell (by show w.heap.size + 1 + 1 + 1 < _; omega)).trans h.z1, (hb.cell (by show w.heap.size + 1 + 1 + 1 + 1 < _; omega)).trans h.u0, (hb.cell (by show w.heap.size + 1 + 1 + 1 + 1 < _; omega)).trans h.u1,
   h.bel.trans (hb.mono (by omega)), Nat.le_trans h.big hb.size⟩
theorem SB.drew (h : SB w o A n c W) : SB w o A n c W.drew := h.next ((Below.refl W.heap.size W).drew) h.big
theorem SB.alloc (h : SB w o A n c W) (ob : Obj) : SB w o A n c (W.alloc ob) := h.next ((Below.refl W.heap.size W).alloc (Nat.le_refl _) _) h.big
theorem SB.store1 (h : SB w o A n c W) (i : Nat) (u : Value) : SB w o A n c (W.setCell ⟨w.heap.size + 1, i, none⟩ u) :=
  ⟨(World.cell?_setCell_other _ _ _ _ (fun e => by injection e; omega)).trans h.a0, (World.cell?_setCell_other _ _ _ _ (fun e => by injection e; omega)).trans h.a1, h.r1.set u, h.r2.far (by omega) u,
   (World.cell?_setCell_other _ _ _ _ (fun e => by injection e; omega)).trans h.z0, (World.cell?_setCell_other _ _ _ _ (fun e => by injection e; omega)).trans h.z1, (World.cell?_setCell_other _ _ _ _ (fun e => by injection e; omega)).trans h.u0, (World.cell?_setCell_other _ _ _ _ (fun e => by injection e; omega)).trans h.u1,
   h.bel.setCell (p := ⟨w.heap.size + 1, i, none⟩) (by show w.heap.size ≤ w.heap.size + 1; omega) _, by simpa using h.big⟩
theorem SB.store2 (h : SB w o A n c W) (i : Nat) (u : Value) : SB w o A n c (W.setCell ⟨w.heap.size + 1 + 1, i, none⟩ u) :=
  ⟨(World.cell?_setCell_other _ _ _ _ (fun e => by injection e; omega)).trans h.a0, (World.cell?_setCell_other _ _ _ _ (fun e => by injection e; omega)).trans h.a1, h.r1.far (by omega) u, h.r2.set u,
   (World.cell?_setCell_other _ _ _ _ (fun e => by injection e; omega)).trans h.z0, (World.cell?_setCell_other _ _ _ _ (fun e => by injection e; omega)).trans h.z1, (World.cell?_setCell_other _ _ _ _ (fun e => by injection e; omega)).trans h.u0, (World.cell?_setCell_other _ _ _ _ (fun e => by injection e; omega)).trans h.u1,
   h.bel.setCell (p := ⟨w.heap.size + 1 + 1, i, none⟩) (by show w.heap.size ≤ w.heap.size + 1 + 1; omega) _, by simpa using h.big⟩
theorem SB.fin (h : SB w o A n c W) {x y : Tr} {v1 v2 : Value} (hx : InT W W.heap.size x v1) (hy : InT W W.heap.size y v2) (p q r s : Value) :
    InT ((((W.setCell ⟨w.heap.size + 1, 0, none⟩ p).setCell ⟨w.heap.size + 1, 1, none⟩ q).setCell ⟨w.heap.size + 1 + 1, 0, none⟩ r).setCell ⟨w.heap.size + 1 + 1, 1, none⟩ s) ((((W.setCell ⟨w.heap.size + 1, 0, none⟩ p).setCell ⟨w.heap.size + 1, 1, none⟩ q).setCell ⟨w.heap.size + 1 + 1, 0, none⟩ r).setCell ⟨w.heap.size + 1 + 1, 1, none⟩ s).heap.size x v1 ∧
    InT ((((W.setCell ⟨w.heap.size + 1, 0, none⟩ p).setCell ⟨w.heap.size + 1, 1, none⟩ q).setCell ⟨w.heap.size + 1 + 1, 0, none⟩ r).setCell ⟨w.heap.size + 1 + 1, 1, none⟩ s) ((((W.setCell ⟨w.heap.size + 1, 0, none⟩ p).setCell ⟨w.heap.size + 1, 1, none⟩ q).setCell ⟨w.heap.size + 1 + 1, 0, none⟩ r).setCell ⟨w.heap.size + 1 + 1, 1, none⟩ s).heap.size y v2 ∧
    Below w.heap.size w ((((W.setCell ⟨w.heap.size + 1, 0, none⟩ p).setCell ⟨w.heap.size + 1, 1, none⟩ q).setCell ⟨w.heap.size + 1 + 1, 0, none⟩ r).setCell ⟨w.heap.size + 1 + 1, 1, none⟩ s) := by
  have key : ∀ {z : Tr} {v : Value}, InT W W.heap.size z v → InT ((((W.setCell ⟨w.heap.size + 1, 0, none⟩ p).setCell ⟨w.heap.size + 1, 1, none⟩ q).setCell ⟨w.heap.size + 1 + 1, 0, none⟩ r).setCell ⟨w.heap.size + 1 + 1, 1, none⟩ s) ((((W.setCell ⟨w.heap.size + 1, 0, none⟩ p).setCell ⟨w.heap.size + 1, 1, none⟩ q).setCell ⟨w.heap.size + 1 + 1, 0, none⟩ r).setCell ⟨w.heap.size + 1 + 1, 1, none⟩ s).heap.size z v := fun hz => by
    have e : ((((W.setCell ⟨w.heap.size + 1, 0, none⟩ p).setCell ⟨w.heap.size + 1, 1, none⟩ q).setCell ⟨w.heap.size + 1 + 1, 0, none⟩ r).setCell ⟨w.heap.size + 1 + 1, 1, none⟩ s).heap.size = W.heap.size := by simp
    rw [e]
    exact InT.set2 (((h.store1 0 p).store1 1 q).store2 0 r).r2 (InT.set2 ((h.store1 0 p).store1 1 q).r2 (InT.set2 (h.store1 0 p).r1 (InT.set2 h.r1 hz)))
  exact ⟨key hx, key hy, ((((h.store1 0 p).store1 1 q).store2 0 r).store2 1 s).bel⟩
end
/-- The same, and two more boxed trees, in blocks g1 and g2. -/
structure SC (w : World) (o : Bool) (A : Option Addr) (n c : Nat) (g1 : Nat) (x1 : Tr) (o1 : Bool) (A1 : Option Addr) (n1 c1 : Nat) (g2 : Nat) (x2 : Tr) (o2 : Bool) (A2 : Option Addr) (n2 c2 : Nat) (W : World) : Prop where
  sb : SB w o A n c W
  p0 : W.cell? ⟨g1, 0, none⟩ = some (.bool o1)
  p1 : W.cell? ⟨g1, 1, none⟩ = some (.slice A1 n1 c1)
  q0 : W.cell? ⟨g2, 0, none⟩ = some (.bool o2)
  q1 : W.cell? ⟨g2, 1, none⟩ = some (.slice A2 n2 c2)
  b1 : w.heap.size + 5 ≤ g1
  b2 : w.heap.size + 5 ≤ g2
  l1 : g1 < W.heap.size
  l2 : g2 < W.heap.size
  t1 : InT W W.heap.size x1 (tv o1 A1 n1 c1)
  t2 : InT W W.heap.size x2 (tv o2 A2 n2 c2)
section
variable {w : World} {o : Bool} {A : Option Addr} {n c g1 : Nat} {x1 : Tr} {o1 : Bool} {A1 : Option Addr} {n1 c1 g2 : Nat} {x2 : Tr} {o2 : Bool} {A2 : Option Addr} {n2 c2 : Nat} {W W' : World}
theorem SC.next (h : SC w o A n c g1 x1 o1 A1 n1 c1 g2 x2 o2 A2 n2 c2 W) (hb : Below W.heap.size W W') : SC w o A n c g1 x1 o1 A1 n1 c1 g2 x2 o2 A2 n2 c2 W' :=
  ⟨h.sb.next hb h.sb.big, (hb.cell h.l1).trans h.p0, (hb.cell h.l1).trans h.p1, (hb.cell h.l2).trans h.q0, (hb.cell h.l2).trans h.q1, h.b1, h.b2, Nat.lt_of_lt_of_le h.l1 hb.size, Nat.lt_of_lt_of_le h.l2 hb.size, h.t1.up hb, h.t2.up hb⟩
theorem SC.drew (h : SC w o A n c g1 x1 o1 A1 n1 c1 g2 x2 o2 A2 n2 c2 W) : SC w o A n c g1 x1 o1 A1 n1 c1 g2 x2 o2 A2 n2 c2 W.drew := h.next ((Below.refl W.heap.size W).drew)
theorem size_set (W : World) (p : Addr) (u : Value) : (W.setCell p u).heap.size = W.heap.size := by simp
theorem SC.store1 (h : SC w o A n c g1 x1 o1 A1 n1 c1 g2 x2 o2 A2 n2 c2 W) (i : Nat) (u : Value) : SC w o A n c g1 x1 o1 A1 n1 c1 g2 x2 o2 A2 n2 c2 (W.setCell ⟨w.heap.size + 1, i, none⟩ u) := by
  have h1 := h.b1
  have h2 := h.b2
  refine ⟨h.sb.store1 i u, (World.cell?_setCell_other _ _ _ _ (fun e => by injection e; omega)).trans h.p0, (World.cell?_setCell_other _ _ _ _ (fun e => by injection e; omega)).trans h.p1, (World.cell?_setCell_other _ _ _ _ (fun e => by injection e; omega)).trans h.q0, (World.cell?_setCell_other _ _ _ _ (fun e => by injection e; omega)).trans h.q1, h1, h2, by rw [size_set]; exact h.l1, by rw [size_set]; exact h.l2, ?_, ?_⟩
  · rw [size_set]; exact InT.set2 h.sb.r1 h.t1
  · rw [size_set]; exact InT.set2 h.sb.r1 h.t2
theorem SC.store2 (h : SC w o A n c g1 x1 o1 A1 n1 c1 g2 x2 o2 A2 n2 c2 W) (i : Nat) (u : Value) : SC w o A n c g1 x1 o1 A1 n1 c1 g2 x2 o2 A2 n2 c2 (W.setCell ⟨w.heap.size + 1 + 1, i, none⟩ u) := by
  have h1 := h.b1
  have h2 := h.b2
  refine ⟨h.sb.store2 i u, (World.cell?_setCell_other _ _ _ _ (fun e => by injection e; omega)).trans h.p0, (World.cell?_setCell_other _ _ _ _ (fun e => by injection e; omega)).trans h.p1, (World.cell?_setCell_other _ _ _ _ (fun e => by injection e; omega)).trans h.q0, (World.cell?_setCell_other _ _ _ _ (fun e => by injection e; omega)).trans h.q1, h1, h2, by rw [size_set]; exact h.l1, by rw [size_set]; exact h.l2, ?_, ?_⟩
  · rw [size_set]; exact InT.set2 h.sb.r2 h.t1
  · rw [size_set]; exact InT.set2 h.sb.r2 h.t2
end
/-- Two boxes more. -/
theorem SC.of {w : World} {o : Bool} {A : Option Addr} {n c : Nat} {W : World} (h : SB w o A n c W) {x1 x2 : Tr} {o1 o2 : Bool} {A1 A2 : Option Addr} {n1 n2 c1 c2 : Nat} (h1 : InT W W.heap.size x1 (tv o1 A1 n1 c1)) (h2 : InT W W.heap.size x2 (tv o2 A2 n2 c2)) :
    SC w o A n c W.heap.size x1 o1 A1 n1 c1 (W.heap.size + 1) x2 o2 A2 n2 c2 ((W.alloc (.cells #[.bool o1, .slice A1 n1 c1] 24)).alloc (.cells #[.bool o2, .slice A2 n2 c2] 24)) := by
  have hb : Below W.heap.size W ((W.alloc (.cells #[.bool o1, .slice A1 n1 c1] 24)).alloc (.cells #[.bool o2, .slice A2 n2 c2] 24)) := ((Below.refl _ W).alloc (Nat.le_refl _) _).alloc (by simp) _
  have := h.big
  exact ⟨h.next hb h.big, by simp [go_sem], by simp [go_sem], by simp [go_sem], by simp [go_sem], this, by omega, by simp; omega, by simp, h1.up hb, h2.up hb⟩

/-- Two boxes more, the second ahead of the first. -/
theorem SC.of' {w : World} {o : Bool} {A : Option Addr} {n c : Nat} {W : World} (h : SB w o A n c W) {x1 x2 : Tr} {o1 o2 : Bool} {A1 A2 : Option Addr} {n1 n2 c1 c2 : Nat} (h1 : InT W W.heap.size x1 (tv o1 A1 n1 c1)) (h2 : InT W W.heap.size x2 (tv o2 A2 n2 c2)) :
    SC w o A n c (W.heap.size + 1) x1 o1 A1 n1 c1 W.heap.size x2 o2 A2 n2 c2 ((W.alloc (.cells #[.bool o2, .slice A2 n2 c2] 24)).alloc (.cells #[.bool o1, .slice A1 n1 c1] 24)) := by
  have hb : Below W.heap.size W ((W.alloc (.cells #[.bool o2, .slice A2 n2 c2] 24)).alloc (.cells #[.bool o1, .slice A1 n1 c1] 24)) := ((Below.refl _ W).alloc (Nat.le_refl _) _).alloc (by simp) _
  have := h.big
  exact ⟨h.next hb h.big, by simp [go_sem], by simp [go_sem], by simp [go_sem], by simp [go_sem], by omega, this, by simp, by simp; omega, h1.up hb, h2.up hb⟩

set_option maxRecDepth 100000 in
set_option maxHeartbeats 6400000 in
theorem split_any : ∀ (t : Tr) (v : Value) (w : World), InT w w.heap.size t v → Calls Tryz.prog 119 #[v] w (Two (splitT t) w) := by
  intro t
  induction t with
  | leaf b =>
    rintro v w ⟨A, c, rfl⟩
    have HS0 := Lib.hid (SB.start w b A 0 c)
    have hc1 := alike_any b A 0 c false none 0 0 (SW w b A 0 c)
    have hc2 := fun W => alike_any b A 0 c true none 0 0 W
    unfold SW at hc1 HS0
    unfold tv at hc1 hc2 ⊢
    cases b with
    | false =>
      clear hc2
      go_enter Tryz.func119, Tryz.ntmps119
      go_wp2_with fail
      refine hc1.mono ?_
      rintro e w1 ⟨rfl, hb1⟩
      have HS1 := HS0.out.next hb1 (by simp)
      clear hb1 hc1 HS0
      rw [show alikeB false 0 false 0 = true from rfl]
      go_wp2
      refine wp_region_held_drew (S := fun W => SB w false A 0 c W) (by kernel_rfl) HS1.drew (fun hS => ?_)
      clear HS1
      generalize w1.drew = wd at hS ⊢
      refine wpAnyH_take (i := 0) (v := ?_) rfl (by kernel_rfl) (by kernel_rfl) (by kernel_rfl) (fun _ _ _ h => h) (Or.inl ⟨by kernel_rfl, fun W hW => ?_⟩) hS ?_
      rotate_left
      · have z0 := hW.z0; have z1 := hW.z1; have u0 := hW.u0; have u1 := hW.u1
        first | (go_simp; done) | (go_simp; with_reducible rfl)
      refine wpAnyH_take (i := 1) (v := ?_) rfl (by kernel_rfl) (by kernel_rfl) (by kernel_rfl) (fun _ _ _ h => h) (Or.inl ⟨by kernel_rfl, fun W hW => ?_⟩) hS ?_
      rotate_left
      · have z0 := hW.z0; have z1 := hW.z1; have u0 := hW.u0; have u1 := hW.u1
        first | (go_simp; done) | (go_simp; with_reducible rfl)
      have HS := Lib.hid hS
      have HFIN := Lib.hid (fun p q r s => SB.fin hS (zero_in _ _) (zero_in _ _) p q r s)
      obtain ⟨y0, y1, ⟨d0, d1⟩, f0, f1⟩ := hS.r1.facts
      obtain ⟨y2, y3, ⟨d2, d3⟩, f2, f3⟩ := hS.r2.facts
      clear hS
      refine wpAnyH_ready (rs := [2]) (by kernel_rfl) (by simp) ?_
      refine AllReadyH.cons rfl (fun K hK => ?_) AllReadyH.nil
      go_simp
      go_wp2
      refine hK.out _ _ ((HS.out.store1 0 _).store1 1 _) (fun _ => ?_)
      clear hK K
      refine wpAnyH_ready (rs := [3]) (by kernel_rfl) (by simp) ?_
      refine AllReadyH.cons rfl (fun K hK => ?_) AllReadyH.nil
      go_simp
      go_wp2
      refine hK.out _ _ ((((HS.out.store1 0 _).store1 1 _).store2 0 _).store2 1 _) (fun _ => ?_)
      clear hK K HS
      refine wpAnyH_done (by kernel_rfl) ?_ _
      go_wp2
      refine bodyPost_ret (v := .tuple #[tv false none 0 0, tv false none 0 0]) (by simp [results, Tryz.f119, go_sem, tv, d0, d1, d2, d3]) rfl ?_
      exact ⟨_, _, rfl, (HFIN.out _ _ _ _).1, (HFIN.out _ _ _ _).2.1, (HFIN.out _ _ _ _).2.2⟩
    | true =>
      go_enter Tryz.func119, Tryz.ntmps119
      go_wp2_with fail
      refine hc1.mono ?_
      rintro e w1 ⟨rfl, hb1⟩
      have HS1 := Lib.hid (HS0.out.next hb1 (by simp))
      obtain ⟨a0, a1, _, _, z0, z1, u0, u1, _, _⟩ := HS1.out
      have hcall := hc2 w1
      clear hb1 hc1 hc2 HS0
      rw [show alikeB true 0 false 0 = false from rfl]
      go_wp2_with fail
      refine hcall.mono ?_
      rintro e w2 ⟨rfl, hb2⟩
      have HS2 := HS1.out.next hb2 HS1.out.big
      clear hb2 hcall HS1 a0 a1 z0 z1 u0 u1
      rw [show alikeB true 0 true 0 = true from rfl]
      go_wp2
      refine wp_region_held_drew (S := fun W => SB w true A 0 c W) (by kernel_rfl) HS2.drew (fun hS => ?_)
      clear HS2
      refine wpAnyH_take (i := 0) (v := ?_) rfl (by kernel_rfl) (by kernel_rfl) (by kernel_rfl) (fun _ _ _ h => h) (Or.inl ⟨by kernel_rfl, fun W hW => ?_⟩) hS ?_
      rotate_left
      · have z0 := hW.z0; have z1 := hW.z1; have u0 := hW.u0; have u1 := hW.u1
        first | (go_simp; done) | (go_simp; with_reducible rfl)
      refine wpAnyH_take (i := 1) (v := ?_) rfl (by kernel_rfl) (by kernel_rfl) (by kernel_rfl) (fun _ _ _ h => h) (Or.inl ⟨by kernel_rfl, fun W hW => ?_⟩) hS ?_
      rotate_left
      · have z0 := hW.z0; have z1 := hW.z1; have u0 := hW.u0; have u1 := hW.u1
        first | (go_simp; done) | (go_simp; with_reducible rfl)
      refine wpAnyH_take (i := 3) (v := ?_) rfl (by kernel_rfl) (by kernel_rfl) (by kernel_rfl) (fun _ _ _ h => h) (Or.inl ⟨by kernel_rfl, fun W hW => ?_⟩) hS ?_
      rotate_left
      · have z0 := hW.z0; have z1 := hW.z1; have u0 := hW.u0; have u1 := hW.u1
        first | (go_simp; done) | (go_simp; with_reducible rfl)
      refine wpAnyH_take (i := 4) (v := ?_) rfl (by kernel_rfl) (by kernel_rfl) (by kernel_rfl) (fun _ _ _ h => h) (Or.inl ⟨by kernel_rfl, fun W hW => ?_⟩) hS ?_
      rotate_left
      · have z0 := hW.z0; have z1 := hW.z1; have u0 := hW.u0; have u1 := hW.u1
        first | (go_simp; done) | (go_simp; with_reducible rfl)
      refine wpAnyH_ready (rs := [2]) (by kernel_rfl) (by simp) ?_
      refine AllReadyH.cons rfl (fun K hK => ?_) AllReadyH.nil
      go_simp
      go_wp2_with (go_at_call 154; refine (pair_any (.leaf true) (.leaf false) _ _ _ ⟨none, 0, rfl⟩ ⟨none, 0, rfl⟩).mono ?_; rintro e w7 ⟨v1, rfl, ht1, hb7⟩)
      have hS3 := hS.next hb7 hS.big
      have HT1 := Lib.hid ht1
      clear hb7 ht1 hS
      refine hK.out _ _ hS3 (fun hS => ?_)
      clear hK K hS3
      refine wpAnyH_ready (rs := [5]) (by kernel_rfl) (by simp) ?_
      refine AllReadyH.cons rfl (fun K hK => ?_) AllReadyH.nil
      go_simp
      go_wp2_with (go_at_call 154; refine (pair_any (.leaf false) (.leaf true) _ _ _ ⟨none, 0, rfl⟩ ⟨none, 0, rfl⟩).mono ?_; rintro e w8 ⟨v2, rfl, ht2, hb8⟩)
      have hS3 := hS.next hb8 hS.big
      have HT2 := Lib.hid (HT1.out.up hb8)
      have HT3 := Lib.hid ht2
      clear hb8 ht2 hS
      refine hK.out _ _ hS3 (fun hS => ?_)
      clear hK K hS3
      obtain ⟨o5, A5, n5, c5, rfl⟩ := HT2.out.form
      obtain ⟨o6, A6, n6, c6, rfl⟩ := HT3.out.form
      have HS := Lib.hid hS
      have HFIN := Lib.hid (fun p q r s => SB.fin hS HT2.out HT3.out p q r s)
      obtain ⟨y0, y1, ⟨d0, d1⟩, f0, f1⟩ := hS.r1.facts
      obtain ⟨y2, y3, ⟨d2, d3⟩, f2, f3⟩ := hS.r2.facts
      clear hS HT1 HT2 HT3
      unfold tv
      refine wpAnyH_ready (rs := [6]) (by kernel_rfl) (by simp) ?_
      refine AllReadyH.cons rfl (fun K hK => ?_) AllReadyH.nil
      go_simp
      go_wp2
      refine hK.out _ _ ((HS.out.store1 0 _).store1 1 _) (fun _ => ?_)
      clear hK K
      refine wpAnyH_ready (rs := [7]) (by kernel_rfl) (by simp) ?_
      refine AllReadyH.cons rfl (fun K hK => ?_) AllReadyH.nil
      go_simp
      go_wp2
      refine hK.out _ _ ((((HS.out.store1 0 _).store1 1 _).store2 0 _).store2 1 _) (fun _ => ?_)
      clear hK K HS
      refine wpAnyH_done (by kernel_rfl) ?_ _
      go_wp2
      refine bodyPost_ret (v := .tuple #[tv o5 A5 n5 c5, tv o6 A6 n6 c6]) (by simp [results, Tryz.f119, go_sem, tv, d0, d1, d2, d3]) rfl ?_
      exact ⟨_, _, rfl, (HFIN.out _ _ _ _).1, (HFIN.out _ _ _ _).2.1, (HFIN.out _ _ _ _).2.2⟩
  | node x y ihx ihy =>
    rintro v w ⟨b, off, c, rfl, hb, ⟨o1, A1, n1, c1, e1, e2, e3⟩, ⟨o2, A2, n2, c2, g1, g2, g3⟩⟩
    have HS0 := Lib.hid (SB.start w false (some ⟨b, off, none⟩) 2 c)
    have hc1 := alike_any false (some ⟨b, off, none⟩) 2 c false none 0 0 (SW w false (some ⟨b, off, none⟩) 2 c)
    have hc2 := fun W => alike_any false (some ⟨b, off, none⟩) 2 c true none 0 0 W
    have HF : Hid (∀ W, SB w false (some ⟨b, off, none⟩) 2 c W → W.cell? ⟨w.heap.size, 1, none⟩ = some (.slice (some ⟨b, off, none⟩) 2 c) ∧ W.cell? ⟨b, off, none⟩ = some (.bool o1) ∧ W.cell? ⟨b, off + 1, none⟩ = some (.slice A1 n1 c1) ∧ W.cell? ⟨b, off + 2, none⟩ = some (.bool o2) ∧ W.cell? ⟨b, off + 2 + 1, none⟩ = some (.slice A2 n2 c2)) := fun W hW => by
      have low : ∀ i, W.cell? ⟨b, i, none⟩ = w.cell? ⟨b, i, none⟩ := fun i => hW.bel.cell hb
      exact ⟨hW.a1, (low _).trans e1, (low _).trans e2, (low _).trans g1, (low _).trans g2⟩
    have HX := Lib.hid e3
    have HY := Lib.hid g3
    have hlx := e3.leafy
    have hly := g3.leafy
    have HE : Hid (splitT (.node x y) = if alikeB o1 n1 false 0 = true then (.node (.leaf false) (splitT y).1, .node (.leaf false) (splitT y).2) else if alikeB o2 n2 false 0 = true then (.node (splitT x).1 (.leaf false), .node (splitT x).2 (.leaf false)) else (.node x (.leaf false), .node (.leaf false) y)) := by
      show _ = _
      rcases hlx with ⟨rfl, rfl⟩ | ⟨rfl, rfl, p, q, rfl⟩
      · rcases hly with ⟨rfl, rfl⟩ | ⟨rfl, rfl, p, q, rfl⟩ <;> cases o1 <;> (try cases o2) <;> rfl
      · rcases hly with ⟨rfl, rfl⟩ | ⟨rfl, rfl, r, s, rfl⟩ <;> (try cases o2) <;> rfl
    have HZX : Hid (alikeB o1 n1 false 0 = true → x = .leaf false) := by
      rintro h
      rcases hlx with ⟨rfl, rfl⟩ | ⟨rfl, rfl, p, q, rfl⟩
      · cases o1
        · rfl
        · cases h
      · cases h
    clear hlx hly
    unfold SW at hc1 HS0
    unfold tv at hc1 hc2 ⊢
    clear e1 e2 e3 g1 g2 g3
    have HIX := Lib.hid ihx
    have HIY := Lib.hid ihy
    clear ihx ihy
    go_enter Tryz.func119, Tryz.ntmps119
    go_wp2_with fail
    refine hc1.mono ?_
    rintro e w1 ⟨rfl, hb1⟩
    have HS1 := Lib.hid (HS0.out.next hb1 (by simp))
    obtain ⟨a0, a1, _, _, z0, z1, u0, u1, _, _⟩ := HS1.out
    have hcall := hc2 w1
    clear hb1 hc1 hc2 HS0
    rw [show alikeB false 2 false 0 = false from rfl]
    go_wp2_with fail
    refine hcall.mono ?_
    rintro e w2 ⟨rfl, hb2⟩
    have HS2 := HS1.out.next hb2 HS1.out.big
    clear hb2 hcall HS1 a0 a1 z0 z1 u0 u1
    rw [show alikeB false 2 true 0 = false from rfl]
    go_wp2
    rename_i KK hKK
    have hrest : ∀ (B6 B7 : Nat) (W' : World), SC w false (some ⟨b, off, none⟩) 2 c B6 x o1 A1 n1 c1 B7 y o2 A2 n2 c2 W' → KK { tmps := #[.agg #[.bool false, .slice (some ⟨b, off, none⟩) 2 c], .pointer (some ⟨w.heap.size, 0, none⟩), .pointer (some ⟨w.heap.size + 1, 0, none⟩), .pointer (some ⟨w.heap.size + 1 + 1, 0, none⟩), .pointer (some ⟨w.heap.size + 1 + 1 + 1, 0, none⟩), .pointer (some ⟨w.heap.size + 1 + 1 + 1 + 1, 0, none⟩), .pointer (some ⟨B6, 0, none⟩), .pointer (some ⟨B7, 0, none⟩), undef, undef, undef, undef, .agg #[.bool false, .slice none 0 0], .agg #[.bool true, .slice none 0 0], .agg #[.bool false, .slice (some ⟨b, off, none⟩) 2 c], .agg #[.bool false, .slice none 0 0], .bool false, undef, undef, .agg #[.bool false, .slice (some ⟨b, off, none⟩) 2 c], .agg #[.bool true, .slice none 0 0], .bool false, undef, undef, undef, undef, undef, undef, .pointer (some ⟨w.heap.size, 1, none⟩), .slice (some ⟨b, off, none⟩) 2 c, .pointer (some ⟨b, off, none⟩), .agg #[.bool o1, .slice A1 n1 c1], .pointer (some ⟨w.heap.size, 1, none⟩), .slice (some ⟨b, off, none⟩) 2 c, .pointer (some ⟨b, off + 2, none⟩), .agg #[.bool o2, .slice A2 n2 c2], undef, undef, undef, undef, undef, undef, undef, undef, undef, undef, undef, undef, undef, undef, undef, undef, undef, undef, undef, undef, undef, undef, undef, undef, undef, undef, undef, undef, undef, undef, undef, undef, undef, undef, undef, undef], defers := [] } W' := by
      intro B6 B7 W' hS'
      refine hKK _ _ ?_
      clear hKK KK HS2 HF
      have HS' := Lib.hid hS'
      obtain ⟨sb, p0, p1, q0, q1, k1, k2, m1, m2, j1, j2⟩ := hS'
      obtain ⟨_, _, _, _, z0, z1, u0, u1, _, _⟩ := sb
      have hcall := alike_any o1 A1 n1 c1 false none 0 0 W'
      unfold tv at hcall
      clear k1 k2 m1 m2 j1 j2
      go_wp2_with fail
      refine hcall.mono ?_
      rintro e w3 ⟨rfl, hb3⟩
      have HS3 := Lib.hid (HS'.out.next hb3)
      clear hb3 hcall HS' p0 p1 q0 q1 z0 z1 u0 u1
      by_cases hx0 : alikeB o1 n1 false 0 = true
      · have HE2 := HE.out
        rw [hx0] at HE2 ⊢
        have HE := Lib.hid HE2
        clear HE2
        have hxl := HZX.out hx0
        have q0 := HS3.out.q0
        have q1 := HS3.out.q1
        have hcall := HIY.out _ w3 HS3.out.t2
        unfold tv at hcall
        go_wp2_with fail
        refine hcall.mono ?_
        rintro e w4 ⟨v3, v4, rfl, ht3, ht4, hb4⟩
        have HS4 := Lib.hid (HS3.out.next hb4)
        obtain ⟨o3, A3, n3, c3, rfl⟩ := ht3.form
        obtain ⟨o4, A4, n4, c4, rfl⟩ := ht4.form
        have HS5 := SC.of HS4.out.sb ht3 ht4
        clear hb4 hcall HS3 HS4 q0 q1 ht3 ht4
        unfold tv
        go_wp2
        refine wp_region_held_drew (S := fun W => SC w false (some ⟨b, off, none⟩) 2 c _ (splitT y).1 o3 A3 n3 c3 _ (splitT y).2 o4 A4 n4 c4 W) (by kernel_rfl) HS5.drew (fun hS => ?_)
        clear HS5
        refine wpAnyH_take (i := 0) (v := ?_) rfl (by kernel_rfl) (by kernel_rfl) (by kernel_rfl) (fun _ _ _ h => h) (Or.inl ⟨by kernel_rfl, fun W hW => ?_⟩) hS ?_
        rotate_left
        · have z0 := hW.sb.z0; have z1 := hW.sb.z1; have p0 := hW.p0; have p1 := hW.p1; have q0 := hW.q0; have q1 := hW.q1
          first | (go_simp; done) | (go_simp; with_reducible rfl)
        refine wpAnyH_take (i := 1) (v := ?_) rfl (by kernel_rfl) (by kernel_rfl) (by kernel_rfl) (fun _ _ _ h => h) (Or.inl ⟨by kernel_rfl, fun W hW => ?_⟩) hS ?_
        rotate_left
        · have z0 := hW.sb.z0; have z1 := hW.sb.z1; have p0 := hW.p0; have p1 := hW.p1; have q0 := hW.q0; have q1 := hW.q1
          first | (go_simp; done) | (go_simp; with_reducible rfl)
        refine wpAnyH_take (i := 3) (v := ?_) rfl (by kernel_rfl) (by kernel_rfl) (by kernel_rfl) (fun _ _ _ h => h) (Or.inl ⟨by kernel_rfl, fun W hW => ?_⟩) hS ?_
        rotate_left
        · have z0 := hW.sb.z0; have z1 := hW.sb.z1; have p0 := hW.p0; have p1 := hW.p1; have q0 := hW.q0; have q1 := hW.q1
          first | (go_simp; done) | (go_simp; with_reducible rfl)
        refine wpAnyH_take (i := 4) (v := ?_) rfl (by kernel_rfl) (by kernel_rfl) (by kernel_rfl) (fun _ _ _ h => h) (Or.inl ⟨by kernel_rfl, fun W hW => ?_⟩) hS ?_
        rotate_left
        · have z0 := hW.sb.z0; have z1 := hW.sb.z1; have p0 := hW.p0; have p1 := hW.p1; have q0 := hW.q0; have q1 := hW.q1
          first | (go_simp; done) | (go_simp; with_reducible rfl)
        refine wpAnyH_ready (rs := [2]) (by kernel_rfl) (by simp) ?_
        refine AllReadyH.cons rfl (fun K hK => ?_) AllReadyH.nil
        go_simp
        go_wp2_with (go_at_call 154; refine (pair_any (.leaf false) _ _ _ _ ⟨none, 0, rfl⟩ hS.t1).mono ?_; rintro e w7 ⟨v1, rfl, ht1, hb7⟩)
        have hS3 := hS.next hb7
        have HT1 := Lib.hid ht1
        clear hb7 ht1 hS
        refine hK.out _ _ hS3 (fun hS => ?_)
        clear hK K hS3
        refine wpAnyH_ready (rs := [5]) (by kernel_rfl) (by simp) ?_
        refine AllReadyH.cons rfl (fun K hK => ?_) AllReadyH.nil
        go_simp
        go_wp2_with (go_at_call 154; refine (pair_any (.leaf false) _ _ _ _ ⟨none, 0, rfl⟩ hS.t2).mono ?_; rintro e w8 ⟨v2, rfl, ht2, hb8⟩)
        have hS3 := hS.next hb8
        have HT2 := Lib.hid (HT1.out.up hb8)
        have HT3 := Lib.hid ht2
        clear hb8 ht2 hS
        refine hK.out _ _ hS3 (fun hS => ?_)
        clear hK K hS3
        obtain ⟨o5, A5, n5, c5, rfl⟩ := HT2.out.form
        obtain ⟨o6, A6, n6, c6, rfl⟩ := HT3.out.form
        have HS := Lib.hid hS
        have HFIN := Lib.hid (fun p q r s => SB.fin hS.sb HT2.out HT3.out p q r s)
        obtain ⟨y0, y1, ⟨d0, d1⟩, f0, f1⟩ := hS.sb.r1.facts
        obtain ⟨y2, y3, ⟨d2, d3⟩, f2, f3⟩ := hS.sb.r2.facts
        clear hS HT1 HT2 HT3
        unfold tv
        refine wpAnyH_ready (rs := [6]) (by kernel_rfl) (by simp) ?_
        refine AllReadyH.cons rfl (fun K hK => ?_) AllReadyH.nil
        go_simp
        go_wp2
        refine hK.out _ _ ((HS.out.store1 0 _).store1 1 _) (fun _ => ?_)
        clear hK K
        refine wpAnyH_ready (rs := [7]) (by kernel_rfl) (by simp) ?_
        refine AllReadyH.cons rfl (fun K hK => ?_) AllReadyH.nil
        go_simp
        go_wp2
        refine hK.out _ _ ((((HS.out.store1 0 _).store1 1 _).store2 0 _).store2 1 _) (fun _ => ?_)
        clear hK K HS
        refine wpAnyH_done (by kernel_rfl) ?_ _
        go_wp2
        refine bodyPost_ret (v := .tuple #[tv o5 A5 n5 c5, tv o6 A6 n6 c6]) (by simp [results, Tryz.f119, go_sem, tv, d0, d1, d2, d3]) rfl ?_
        exact ⟨_, _, rfl, by rw [HE.out]; exact (HFIN.out _ _ _ _).1, by rw [HE.out]; exact (HFIN.out _ _ _ _).2.1, (HFIN.out _ _ _ _).2.2⟩
      · have hx1 : alikeB o1 n1 false 0 = false := by simpa using hx0
        have HE2 := HE.out
        rw [hx1] at HE2 ⊢
        have HE := Lib.hid HE2
        clear HE2 hx0 hx1
        have q0 := HS3.out.q0
        have q1 := HS3.out.q1
        have z0 := HS3.out.sb.z0
        have z1 := HS3.out.sb.z1
        have hcall := alike_any o2 A2 n2 c2 false none 0 0 w3
        unfold tv at hcall
        go_wp2_with fail
        refine hcall.mono ?_
        rintro e w4 ⟨rfl, hb4⟩
        have HS4 := Lib.hid (HS3.out.next hb4)
        clear hb4 hcall HS3 q0 q1 z0 z1
        by_cases hy0 : alikeB o2 n2 false 0 = true
        · have HE2 := HE.out
          rw [hy0] at HE2 ⊢
          have HE := Lib.hid HE2
          clear HE2
          have p0 := HS4.out.p0
          have p1 := HS4.out.p1
          have hcall := HIX.out _ w4 HS4.out.t1
          unfold tv at hcall
          go_wp2_with fail
          refine hcall.mono ?_
          rintro e w5 ⟨v3, v4, rfl, ht3, ht4, hb5⟩
          have HS5 := Lib.hid (HS4.out.next hb5)
          obtain ⟨o3, A3, n3, c3, rfl⟩ := ht3.form
          obtain ⟨o4, A4, n4, c4, rfl⟩ := ht4.form
          have HS6 := SC.of HS5.out.sb ht3 ht4
          clear hb5 hcall HS4 HS5 p0 p1 ht3 ht4
          unfold tv
          go_wp2
          refine wp_region_held_drew (S := fun W => SC w false (some ⟨b, off, none⟩) 2 c _ (splitT x).1 o3 A3 n3 c3 _ (splitT x).2 o4 A4 n4 c4 W) (by kernel_rfl) HS6.drew (fun hS => ?_)
          clear HS6
          refine wpAnyH_take (i := 0) (v := ?_) rfl (by kernel_rfl) (by kernel_rfl) (by kernel_rfl) (fun _ _ _ h => h) (Or.inl ⟨by kernel_rfl, fun W hW => ?_⟩) hS ?_
          rotate_left
          · have z0 := hW.sb.z0; have z1 := hW.sb.z1; have p0 := hW.p0; have p1 := hW.p1; have q0 := hW.q0; have q1 := hW.q1
            first | (go_simp; done) | (go_simp; with_reducible rfl)
          refine wpAnyH_take (i := 1) (v := ?_) rfl (by kernel_rfl) (by kernel_rfl) (by kernel_rfl) (fun _ _ _ h => h) (Or.inl ⟨by kernel_rfl, fun W hW => ?_⟩) hS ?_
          rotate_left
          · have z0 := hW.sb.z0; have z1 := hW.sb.z1; have p0 := hW.p0; have p1 := hW.p1; have q0 := hW.q0; have q1 := hW.q1
            first | (go_simp; done) | (go_simp; with_reducible rfl)
          refine wpAnyH_take (i := 3) (v := ?_) rfl (by kernel_rfl) (by kernel_rfl) (by kernel_rfl) (fun _ _ _ h => h) (Or.inl ⟨by kernel_rfl, fun W hW => ?_⟩) hS ?_
          rotate_left
          · have z0 := hW.sb.z0; have z1 := hW.sb.z1; have p0 := hW.p0; have p1 := hW.p1; have q0 := hW.q0; have q1 := hW.q1
            first | (go_simp; done) | (go_simp; with_reducible rfl)
          refine wpAnyH_take (i := 4) (v := ?_) rfl (by kernel_rfl) (by kernel_rfl) (by kernel_rfl) (fun _ _ _ h => h) (Or.inl ⟨by kernel_rfl, fun W hW => ?_⟩) hS ?_
          rotate_left
          · have z0 := hW.sb.z0; have z1 := hW.sb.z1; have p0 := hW.p0; have p1 := hW.p1; have q0 := hW.q0; have q1 := hW.q1
            first | (go_simp; done) | (go_simp; with_reducible rfl)
          refine wpAnyH_ready (rs := [2]) (by kernel_rfl) (by simp) ?_
          refine AllReadyH.cons rfl (fun K hK => ?_) AllReadyH.nil
          go_simp
          go_wp2_with (go_at_call 154; refine (pair_any _ (.leaf false) _ _ _ hS.t1 ⟨none, 0, rfl⟩).mono ?_; rintro e w7 ⟨v1, rfl, ht1, hb7⟩)
          have hS3 := hS.next hb7
          have HT1 := Lib.hid ht1
          clear hb7 ht1 hS
          refine hK.out _ _ hS3 (fun hS => ?_)
          clear hK K hS3
          refine wpAnyH_ready (rs := [5]) (by kernel_rfl) (by simp) ?_
          refine AllReadyH.cons rfl (fun K hK => ?_) AllReadyH.nil
          go_simp
          go_wp2_with (go_at_call 154; refine (pair_any _ (.leaf false) _ _ _ hS.t2 ⟨none, 0, rfl⟩).mono ?_; rintro e w8 ⟨v2, rfl, ht2, hb8⟩)
          have hS3 := hS.next hb8
          have HT2 := Lib.hid (HT1.out.up hb8)
          have HT3 := Lib.hid ht2
          clear hb8 ht2 hS
          refine hK.out _ _ hS3 (fun hS => ?_)
          clear hK K hS3
          obtain ⟨o5, A5, n5, c5, rfl⟩ := HT2.out.form
          obtain ⟨o6, A6, n6, c6, rfl⟩ := HT3.out.form
          have HS := Lib.hid hS
          have HFIN := Lib.hid (fun p q r s => SB.fin hS.sb HT2.out HT3.out p q r s)
          obtain ⟨y0, y1, ⟨d0, d1⟩, f0, f1⟩ := hS.sb.r1.facts
          obtain ⟨y2, y3, ⟨d2, d3⟩, f2, f3⟩ := hS.sb.r2.facts
          clear hS HT1 HT2 HT3
          unfold tv
          refine wpAnyH_ready (rs := [6]) (by kernel_rfl) (by simp) ?_
          refine AllReadyH.cons rfl (fun K hK => ?_) AllReadyH.nil
          go_simp
          go_wp2
          refine hK.out _ _ ((HS.out.store1 0 _).store1 1 _) (fun _ => ?_)
          clear hK K
          refine wpAnyH_ready (rs := [7]) (by kernel_rfl) (by simp) ?_
          refine AllReadyH.cons rfl (fun K hK => ?_) AllReadyH.nil
          go_simp
          go_wp2
          refine hK.out _ _ ((((HS.out.store1 0 _).store1 1 _).store2 0 _).store2 1 _) (fun _ => ?_)
          clear hK K HS
          refine wpAnyH_done (by kernel_rfl) ?_ _
          go_wp2
          refine bodyPost_ret (v := .tuple #[tv o5 A5 n5 c5, tv o6 A6 n6 c6]) (by simp [results, Tryz.f119, go_sem, tv, d0, d1, d2, d3]) rfl ?_
          exact ⟨_, _, rfl, by rw [HE.out]; exact (HFIN.out _ _ _ _).1, by rw [HE.out]; exact (HFIN.out _ _ _ _).2.1, (HFIN.out _ _ _ _).2.2⟩
        · have hy1 : alikeB o2 n2 false 0 = false := by simpa using hy0
          have HE2 := HE.out
          rw [hy1] at HE2 ⊢
          have HE := Lib.hid HE2
          clear HE2 hy0 hy1
          have HS5 := HS4.out
          clear HS4
          go_wp2
          refine wp_region_held_drew (S := fun W => SC w false (some ⟨b, off, none⟩) 2 c B6 x o1 A1 n1 c1 B7 y o2 A2 n2 c2 W) (by kernel_rfl) HS5.drew (fun hS => ?_)
          clear HS5
          refine wpAnyH_take (i := 0) (v := ?_) rfl (by kernel_rfl) (by kernel_rfl) (by kernel_rfl) (fun _ _ _ h => h) (Or.inl ⟨by kernel_rfl, fun W hW => ?_⟩) hS ?_
          rotate_left
          · have z0 := hW.sb.z0; have z1 := hW.sb.z1; have p0 := hW.p0; have p1 := hW.p1; have q0 := hW.q0; have q1 := hW.q1
            first | (go_simp; done) | (go_simp; with_reducible rfl)
          refine wpAnyH_take (i := 1) (v := ?_) rfl (by kernel_rfl) (by kernel_rfl) (by kernel_rfl) (fun _ _ _ h => h) (Or.inl ⟨by kernel_rfl, fun W hW => ?_⟩) hS ?_
          rotate_left
          · have z0 := hW.sb.z0; have z1 := hW.sb.z1; have p0 := hW.p0; have p1 := hW.p1; have q0 := hW.q0; have q1 := hW.q1
            first | (go_simp; done) | (go_simp; with_reducible rfl)
          refine wpAnyH_take (i := 3) (v := ?_) rfl (by kernel_rfl) (by kernel_rfl) (by kernel_rfl) (fun _ _ _ h => h) (Or.inl ⟨by kernel_rfl, fun W hW => ?_⟩) hS ?_
          rotate_left
          · have z0 := hW.sb.z0; have z1 := hW.sb.z1; have p0 := hW.p0; have p1 := hW.p1; have q0 := hW.q0; have q1 := hW.q1
            first | (go_simp; done) | (go_simp; with_reducible rfl)
          refine wpAnyH_take (i := 4) (v := ?_) rfl (by kernel_rfl) (by kernel_rfl) (by kernel_rfl) (fun _ _ _ h => h) (Or.inl ⟨by kernel_rfl, fun W hW => ?_⟩) hS ?_
          rotate_left
          · have z0 := hW.sb.z0; have z1 := hW.sb.z1; have p0 := hW.p0; have p1 := hW.p1; have q0 := hW.q0; have q1 := hW.q1
            first | (go_simp; done) | (go_simp; with_reducible rfl)
          refine wpAnyH_ready (rs := [2]) (by kernel_rfl) (by simp) ?_
          refine AllReadyH.cons rfl (fun K hK => ?_) AllReadyH.nil
          go_simp
          go_wp2_with (go_at_call 154; refine (pair_any _ (.leaf false) _ _ _ hS.t1 ⟨none, 0, rfl⟩).mono ?_; rintro e w7 ⟨v1, rfl, ht1, hb7⟩)
          have hS3 := hS.next hb7
          have HT1 := Lib.hid ht1
          clear hb7 ht1 hS
          refine hK.out _ _ hS3 (fun hS => ?_)
          clear hK K hS3
          refine wpAnyH_ready (rs := [5]) (by kernel_rfl) (by simp) ?_
          refine AllReadyH.cons rfl (fun K hK => ?_) AllReadyH.nil
          go_simp
          go_wp2_with (go_at_call 154; refine (pair_any (.leaf false) _ _ _ _ ⟨none, 0, rfl⟩ hS.t2).mono ?_; rintro e w8 ⟨v2, rfl, ht2, hb8⟩)
          have hS3 := hS.next hb8
          have HT2 := Lib.hid (HT1.out.up hb8)
          have HT3 := Lib.hid ht2
          clear hb8 ht2 hS
          refine hK.out _ _ hS3 (fun hS => ?_)
          clear hK K hS3
          obtain ⟨o5, A5, n5, c5, rfl⟩ := HT2.out.form
          obtain ⟨o6, A6, n6, c6, rfl⟩ := HT3.out.form
          have HS := Lib.hid hS
          have HFIN := Lib.hid (fun p q r s => SB.fin hS.sb HT2.out HT3.out p q r s)
          obtain ⟨y0, y1, ⟨d0, d1⟩, f0, f1⟩ := hS.sb.r1.facts
          obtain ⟨y2, y3, ⟨d2, d3⟩, f2, f3⟩ := hS.sb.r2.facts
          clear hS HT1 HT2 HT3
          unfold tv
          refine wpAnyH_ready (rs := [6]) (by kernel_rfl) (by simp) ?_
          refine AllReadyH.cons rfl (fun K hK => ?_) AllReadyH.nil
          go_simp
          go_wp2
          refine hK.out _ _ ((HS.out.store1 0 _).store1 1 _) (fun _ => ?_)
          clear hK K
          refine wpAnyH_ready (rs := [7]) (by kernel_rfl) (by simp) ?_
          refine AllReadyH.cons rfl (fun K hK => ?_) AllReadyH.nil
          go_simp
          go_wp2
          refine hK.out _ _ ((((HS.out.store1 0 _).store1 1 _).store2 0 _).store2 1 _) (fun _ => ?_)
          clear hK K HS
          refine wpAnyH_done (by kernel_rfl) ?_ _
          go_wp2
          refine bodyPost_ret (v := .tuple #[tv o5 A5 n5 c5, tv o6 A6 n6 c6]) (by simp [results, Tryz.f119, go_sem, tv, d0, d1, d2, d3]) rfl ?_
          exact ⟨_, _, rfl, by rw [HE.out]; exact (HFIN.out _ _ _ _).1, by rw [HE.out]; exact (HFIN.out _ _ _ _).2.1, (HFIN.out _ _ _ _).2.2⟩
    refine wp_region_held_drew (S := fun W => SB w false (some ⟨b, off, none⟩) 2 c W) (by kernel_rfl) HS2.drew (fun hS => ?_)
    clear HS2 hKK
    generalize w2.drew = wd at hS ⊢
    refine wpAnyH_take (i := 0) (v := ?_) rfl (by kernel_rfl) (by kernel_rfl) (by kernel_rfl) (fun _ _ _ h => h) (Yields.yieldsIf (Or.inl ⟨by kernel_rfl, ?_⟩)) hS ?_
    rotate_left
    · first | (intro w; go_simp; done) | (intro w; go_simp; with_reducible rfl)
    refine wpAnyH_take (i := 1) (v := ?_) rfl (by kernel_rfl) (by kernel_rfl) (by kernel_rfl) (fun _ _ _ h => h) (Or.inl ⟨by kernel_rfl, fun W hW => ?_⟩) hS ?_
    rotate_left
    · obtain ⟨f0, f1, f2, f3, f4⟩ := HF.out W hW
      first | (go_simp; done) | (go_simp; with_reducible rfl)
    refine wpAnyH_take (i := 2) (v := ?_) rfl (by kernel_rfl) (by kernel_rfl) (by kernel_rfl) (fun _ _ _ h => h) (Yields.yieldsIf (Or.inl ⟨by kernel_rfl, ?_⟩)) hS ?_
    rotate_left
    · first | (intro w; go_simp; done) | (intro w; go_simp; with_reducible rfl)
    refine wpAnyH_take (i := 3) (v := ?_) rfl (by kernel_rfl) (by kernel_rfl) (by kernel_rfl) (fun _ _ _ h => h) (Or.inl ⟨by kernel_rfl, fun W hW => ?_⟩) hS ?_
    rotate_left
    · obtain ⟨f0, f1, f2, f3, f4⟩ := HF.out W hW
      first | (go_simp; done) | (go_simp; with_reducible rfl)
    refine wpAnyH_take (i := 4) (v := ?_) rfl (by kernel_rfl) (by kernel_rfl) (by kernel_rfl) (fun _ _ _ h => h) (Yields.yieldsIf (Or.inl ⟨by kernel_rfl, ?_⟩)) hS ?_
    rotate_left
    · first | (intro w; go_simp; done) | (intro w; go_simp; with_reducible rfl)
    refine wpAnyH_take (i := 5) (v := ?_) rfl (by kernel_rfl) (by kernel_rfl) (by kernel_rfl) (fun _ _ _ h => h) (Or.inl ⟨by kernel_rfl, fun W hW => ?_⟩) hS ?_
    rotate_left
    · obtain ⟨f0, f1, f2, f3, f4⟩ := HF.out W hW
      first | (go_simp; done) | (go_simp; with_reducible rfl)
    refine wpAnyH_take (i := 6) (v := ?_) rfl (by kernel_rfl) (by kernel_rfl) (by kernel_rfl) (fun _ _ _ h => h) (Yields.yieldsIf (Or.inl ⟨by kernel_rfl, ?_⟩)) hS ?_
    rotate_left
    · first | (intro w; go_simp; done) | (intro w; go_simp; with_reducible rfl)
    refine wpAnyH_take (i := 7) (v := ?_) rfl (by kernel_rfl) (by kernel_rfl) (by kernel_rfl) (fun _ _ _ h => h) (Or.inl ⟨by kernel_rfl, fun W hW => ?_⟩) hS ?_
    rotate_left
    · obtain ⟨f0, f1, f2, f3, f4⟩ := HF.out W hW
      first | (go_simp; done) | (go_simp; with_reducible rfl)
    have HS := Lib.hid hS
    have hbig := hS.big
    clear hS
    refine wpAnyH_ready (rs := [8, 9]) (by kernel_rfl) (by simp) ?_
    refine AllReadyH.cons rfl (fun K hK => ?_) (AllReadyH.cons rfl (fun K hK => ?_) AllReadyH.nil)
    · go_simp
      go_wp2
      refine hK.out _ _ (HS.out.alloc _) (fun _ => ?_)
      clear hK K
      refine wpAnyH_ready (rs := [9]) (by kernel_rfl) (by simp) ?_
      refine AllReadyH.cons rfl (fun K hK => ?_) AllReadyH.nil
      go_simp
      go_wp2
      refine hK.out _ _ ((HS.out.alloc _).alloc _) (fun _ => ?_)
      clear hK K
      refine wpAnyH_ready (rs := [10]) (by kernel_rfl) (by simp) ?_
      refine AllReadyH.cons rfl (fun K hK => ?_) AllReadyH.nil
      go_simp
      go_wp2
      refine hK.out _ _ ((HS.out.alloc _).alloc _) (fun _ => ?_)
      clear hK K
      refine wpAnyH_ready (rs := [11]) (by kernel_rfl) (by simp) ?_
      refine AllReadyH.cons rfl (fun K hK => ?_) AllReadyH.nil
      go_simp
      go_wp2
      refine hK.out _ _ ((HS.out.alloc _).alloc _) (fun _ => ?_)
      clear hK K
      refine wpAnyH_done (by kernel_rfl) ?_ _
      exact hrest _ _ _ (SC.of HS.out (HX.out.up HS.out.bel) (HY.out.up HS.out.bel))
    · go_simp
      go_wp2
      refine hK.out _ _ (HS.out.alloc _) (fun _ => ?_)
      clear hK K
      refine wpAnyH_ready (rs := [8]) (by kernel_rfl) (by simp) ?_
      refine AllReadyH.cons rfl (fun K hK => ?_) AllReadyH.nil
      go_simp
      go_wp2
      refine hK.out _ _ ((HS.out.alloc _).alloc _) (fun _ => ?_)
      clear hK K
      refine wpAnyH_ready (rs := [10]) (by kernel_rfl) (by simp) ?_
      refine AllReadyH.cons rfl (fun K hK => ?_) AllReadyH.nil
      go_simp
      go_wp2
      refine hK.out _ _ ((HS.out.alloc _).alloc _) (fun _ => ?_)
      clear hK K
      refine wpAnyH_ready (rs := [11]) (by kernel_rfl) (by simp) ?_
      refine AllReadyH.cons rfl (fun K hK => ?_) AllReadyH.nil
      go_simp
      go_wp2
      refine hK.out _ _ ((HS.out.alloc _).alloc _) (fun _ => ?_)
      clear hK K
      refine wpAnyH_done (by kernel_rfl) ?_ _
      exact hrest _ _ _ (SC.of' HS.out (HX.out.up HS.out.bel) (HY.out.up HS.out.bel))
end Go.Proofs.YtoaglkjpjolacaaGreatDoor.I
