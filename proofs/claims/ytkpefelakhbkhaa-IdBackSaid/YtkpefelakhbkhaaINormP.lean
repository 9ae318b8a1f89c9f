/-
  The program's norm.
-/
import Derived.Test.YtkpefelakhbkhaaIRMath
namespace Go.Proofs.Ytkpefelakhbkhaa.I
open Go.RowKit

theorem Box2.facts {w : World} {g : Nat} (h : Box2 w g) : ∃ u0 u1, (w.cell? ⟨g, 0, none⟩ = some u0 ∧ w.cell? ⟨g, 1, none⟩ = some u1) ∧ w.frozen? ⟨g, 0, none⟩ = false ∧ w.frozen? ⟨g, 1, none⟩ = false := by
  obtain ⟨cs, h1, h2⟩ := h
  refine ⟨cs[0]'(by omega), cs[1]'(by omega), ⟨?_, ?_⟩, ?_, ?_⟩
  · rw [cell_of_row w g 0 _ 24 (0, 0) h1]; exact Array.getElem?_eq_getElem _
  · rw [cell_of_row w g 1 _ 24 (0, 0) h1]; exact Array.getElem?_eq_getElem _
  · simp [World.frozen?, h1]
  · simp [World.frozen?, h1]
theorem Box2.far {w : World} {g g' i : Nat} (h : Box2 w g) (hne : g ≠ g') (u : Value) : Box2 (w.setCell ⟨g', i, none⟩ u) g := by
  obtain ⟨cs, h1, h2⟩ := h
  exact ⟨cs, (Below.heap_setCell w ⟨g', i, none⟩ u g hne).trans h1, h2⟩
/-- A tree that was stored into a variable of two cells. -/
theorem store_two {w W : World} {B g : Nat} {t : Tr} {v u1 u2 : Value} (hg : Box2 W g) (h : InT W W.heap.size t v) (hb : Below B w W) (hB : B ≤ g) : InT ((W.setCell ⟨g, 0, none⟩ u1).setCell ⟨g, 1, none⟩ u2) ((W.setCell ⟨g, 0, none⟩ u1).setCell ⟨g, 1, none⟩ u2).heap.size t v ∧ Below B w ((W.setCell ⟨g, 0, none⟩ u1).setCell ⟨g, 1, none⟩ u2) := by
  refine ⟨?_, (hb.setCell (p := ⟨g, 0, none⟩) hB _).setCell (p := ⟨g, 1, none⟩) hB _⟩
  have h1 := InT.set2 (i := 1) (u := u2) (hg.set u1) (InT.set2 (i := 0) (u := u1) hg h)
  have e : ((W.setCell ⟨g, 0, none⟩ u1).setCell ⟨g, 1, none⟩ u2).heap.size = W.heap.size := by simp
  rw [e]; exact h1

/-- What a function keeps that has boxed a tree, and a tree for its answer. -/
structure NB (w : World) (o : Bool) (A : Option Addr) (n c : Nat) (W : World) : Prop where
  a0 : W.cell? ⟨w.heap.size, 0, none⟩ = some (.bool o)
  a1 : W.cell? ⟨w.heap.size, 1, none⟩ = some (.slice A n c)
  box : Box2 W (w.heap.size + 1)
  bel : Below w.heap.size w W
  big : w.heap.size + 2 ≤ W.heap.size
theorem NB.start (w : World) (o : Bool) (A : Option Addr) (n c : Nat) : NB w o A n c ((w.alloc (.cells #[.bool o, .slice A n c] 24)).alloc (.cells #[.bool false, .slice none 0 0] 24)) := by
  refine ⟨by simp [go_sem], by simp [go_sem], ?_, ((Below.refl _ w).alloc (Nat.le_refl _) _).alloc (by simp) _, by simp⟩
  have := box_start (w.alloc (.cells #[.bool o, .slice A n c] 24))
  simpa only [World.size_alloc] using this.two
theorem NB.next {w : World} {o : Bool} {A : Option Addr} {n c : Nat} {W W' : World} (h : NB w o A n c W) {B : Nat} (hb : Below B W W') (hB : w.heap.size + 2 ≤ B) : NB w o A n c W' :=
  ⟨(hb.cell (by show w.heap.size < _; omega)).trans h.a0, (hb.cell (by show w.heap.size < _; omega)).trans h.a1, h.box.below hb (by omega), h.bel.trans (hb.mono (by omega)), Nat.le_trans h.big hb.size⟩
theorem NB.store {w : World} {o : Bool} {A : Option Addr} {n c : Nat} {W : World} (h : NB w o A n c W) (i : Nat) (u : Value) : NB w o A n c (W.setCell ⟨w.heap.size + 1, i, none⟩ u) :=
  ⟨(World.cell?_setCell_other _ _ _ _ (fun e => by injection e; omega)).trans h.a0, (World.cell?_setCell_other _ _ _ _ (fun e => by injection e; omega)).trans h.a1, h.box.set u, h.bel.setCell (p := ⟨w.heap.size + 1, i, none⟩) (by show w.heap.size ≤ w.heap.size + 1; omega) _, by simpa using h.big⟩
theorem NB.drew {w : World} {o : Bool} {A : Option Addr} {n c : Nat} {W : World} (h : NB w o A n c W) : NB w o A n c W.drew := h.next ((Below.refl W.heap.size W).drew) h.big

set_option maxRecDepth 100000 in
set_option maxHeartbeats 3200000 in
theorem norm_any : ∀ (t : Tr) (v : Value) (w : World), InT w w.heap.size t v → Calls Try.prog 36 #[v] w (Trees t.norm w) := by
  intro t
  induction t with
  | leaf o =>
    rintro v w ⟨A, c, rfl⟩
    have HN := Lib.hid (NB.start w o A 0 c)
    have hc := pleaf_any o A 0 c ((w.alloc (.cells #[.bool o, .slice A 0 c] 24)).alloc (.cells #[.bool false, .slice none 0 0] 24))
    unfold tv at hc ⊢
    go_enter Try.func36, Try.ntmps36
    go_wp2_with fail
    refine hc.mono ?_
    rintro e w1 ⟨rfl, hb1⟩
    obtain ⟨a0, a1, hbox, hbel, hbig⟩ := HN.out.next hb1 (by simp)
    obtain ⟨u0, u1, ⟨c0, c1'⟩, f0, f1⟩ := hbox.facts
    have HFIN : Hid (∀ u1 u2, InT ((w1.setCell ⟨w.heap.size + 1, 0, none⟩ u1).setCell ⟨w.heap.size + 1, 1, none⟩ u2) ((w1.setCell ⟨w.heap.size + 1, 0, none⟩ u1).setCell ⟨w.heap.size + 1, 1, none⟩ u2).heap.size (.leaf o) (tv o none 0 0) ∧ Below w.heap.size w ((w1.setCell ⟨w.heap.size + 1, 0, none⟩ u1).setCell ⟨w.heap.size + 1, 1, none⟩ u2)) := fun u1 u2 => store_two hbox ⟨none, 0, rfl⟩ hbel (by omega)
    clear hb1 hbox hbel hbig hc HN
    go_wp2
    refine bodyPost_ret (v := tv o none 0 0) (by simp [results, Try.f36, go_sem, tv, c0, c1']) rfl ?_
    exact ⟨_, rfl, (HFIN.out _ _).1, (HFIN.out _ _).2⟩
  | node x y ihx ihy =>
    rintro v w ⟨b, off, c, rfl, hb, ⟨o1, A1, n1, c1, e1, e2, e3⟩, ⟨o2, A2, n2, c2, g1, g2, g3⟩⟩
    have HN := Lib.hid (NB.start w false (some ⟨b, off, none⟩) 2 c)
    have hc := pleaf_any false (some ⟨b, off, none⟩) 2 c ((w.alloc (.cells #[.bool false, .slice (some ⟨b, off, none⟩) 2 c] 24)).alloc (.cells #[.bool false, .slice none 0 0] 24))
    have HF : Hid (∀ W, NB w false (some ⟨b, off, none⟩) 2 c W → W.cell? ⟨w.heap.size, 1, none⟩ = some (.slice (some ⟨b, off, none⟩) 2 c) ∧ W.cell? ⟨b, off, none⟩ = some (.bool o1) ∧ W.cell? ⟨b, off + 1, none⟩ = some (.slice A1 n1 c1) ∧ W.cell? ⟨b, off + 2, none⟩ = some (.bool o2) ∧ W.cell? ⟨b, off + 2 + 1, none⟩ = some (.slice A2 n2 c2)) := fun W hW => by
      have low : ∀ i, W.cell? ⟨b, i, none⟩ = w.cell? ⟨b, i, none⟩ := fun i => hW.bel.cell hb
      exact ⟨hW.a1, (low _).trans e1, (low _).trans e2, (low _).trans g1, (low _).trans g2⟩
    have hcx : ∀ W, NB w false (some ⟨b, off, none⟩) 2 c W → Calls Try.prog 36 #[.agg #[.bool o1, .slice A1 n1 c1]] W (Trees x.norm W) := fun W hW => ihx _ W (e3.up hW.bel)
    have hcy : ∀ W, NB w false (some ⟨b, off, none⟩) 2 c W → Calls Try.prog 36 #[.agg #[.bool o2, .slice A2 n2 c2]] W (Trees y.norm W) := fun W hW => ihy _ W (g3.up hW.bel)
    unfold tv at hc ⊢
    clear ihx ihy e1 e2 e3 g1 g2 g3
    go_enter Try.func36, Try.ntmps36
    go_wp2_with fail
    refine hc.mono ?_
    rintro e w1 ⟨rfl, hb1⟩
    have HN1 := HN.out.next hb1 (by simp)
    clear hb1 hc HN
    go_wp2
    refine wp_region_held_drew (S := fun W => NB w false (some ⟨b, off, none⟩) 2 c W) (by kernel_rfl) HN1.drew (fun hS => ?_)
    clear HN1
    refine wpAnyH_take (i := 0) (v := ?_) rfl (by kernel_rfl) (by kernel_rfl) (by kernel_rfl) (fun _ _ _ h => h) (Yields.yieldsIf (Or.inl ⟨by kernel_rfl, ?_⟩)) hS ?_
    rotate_left
    · first | (intro w; go_simp; done) | (intro w; go_simp; with_reducible rfl)
    refine wpAnyH_take (i := 1) (v := ?_) rfl (by kernel_rfl) (by kernel_rfl) (by kernel_rfl) (fun _ _ _ h => h) (Or.inl ⟨by kernel_rfl, fun W hW => ?_⟩) hS ?_
    rotate_left
    · obtain ⟨f0, f1, f2, f3, f4⟩ := HF.out W hW
      first | (go_simp; done) | (go_simp; with_reducible rfl)
    refine wpAnyH_take (i := 2) (v := ?_) rfl (by kernel_rfl) (by kernel_rfl) (by kernel_rfl) (fun _ _ _ h => h) (Yields.yieldsIf (Or.inl ⟨by kernel_rfl, ?_⟩)) hS ?_
    rotate_left
    · first | (intro w; go_simp; done) | (intro w; go_simp; with_reducible rfl)
    refine wpAnyH_take (i := 3) (v := ?_) rfl (by kernel_rfl) (by kernel_rfl) (by kernel_rfl) (fun _ _ _ h => h) (Or.inl ⟨by kernel_rfl, fun W hW => ?_⟩) hS ?_
    rotate_left
    · obtain ⟨f0, f1, f2, f3, f4⟩ := HF.out W hW
      first | (go_simp; done) | (go_simp; with_reducible rfl)
    refine wpAnyH_take (i := 5) (v := ?_) rfl (by kernel_rfl) (by kernel_rfl) (by kernel_rfl) (fun _ _ _ h => h) (Yields.yieldsIf (Or.inl ⟨by kernel_rfl, ?_⟩)) hS ?_
    rotate_left
    · first | (intro w; go_simp; done) | (intro w; go_simp; with_reducible rfl)
    refine wpAnyH_take (i := 6) (v := ?_) rfl (by kernel_rfl) (by kernel_rfl) (by kernel_rfl) (fun _ _ _ h => h) (Or.inl ⟨by kernel_rfl, fun W hW => ?_⟩) hS ?_
    rotate_left
    · obtain ⟨f0, f1, f2, f3, f4⟩ := HF.out W hW
      first | (go_simp; done) | (go_simp; with_reducible rfl)
    refine wpAnyH_take (i := 7) (v := ?_) rfl (by kernel_rfl) (by kernel_rfl) (by kernel_rfl) (fun _ _ _ h => h) (Yields.yieldsIf (Or.inl ⟨by kernel_rfl, ?_⟩)) hS ?_
    rotate_left
    · first | (intro w; go_simp; done) | (intro w; go_simp; with_reducible rfl)
    refine wpAnyH_take (i := 8) (v := ?_) rfl (by kernel_rfl) (by kernel_rfl) (by kernel_rfl) (fun _ _ _ h => h) (Or.inl ⟨by kernel_rfl, fun W hW => ?_⟩) hS ?_
    rotate_left
    · obtain ⟨f0, f1, f2, f3, f4⟩ := HF.out W hW
      first | (go_simp; done) | (go_simp; with_reducible rfl)
    refine wpAnyH_ready (rs := [4]) (by kernel_rfl) (by simp) ?_
    refine AllReadyH.cons rfl (fun K hK => ?_) AllReadyH.nil
    go_simp
    go_wp2_with (go_at_call 36; refine (hcx _ hS).mono ?_; rintro e w3 ⟨v1, rfl, ht1, hb3⟩)
    have hS3 := hS.next hb3 hS.big
    have HT1 := Lib.hid ht1
    clear hb3 ht1 hS
    refine hK.out _ _ hS3 (fun hS => ?_)
    clear hK K hS3
    refine wpAnyH_ready (rs := [9]) (by kernel_rfl) (by simp) ?_
    refine AllReadyH.cons rfl (fun K hK => ?_) AllReadyH.nil
    go_simp
    go_wp2_with (go_at_call 36; refine (hcy _ hS).mono ?_; rintro e w4 ⟨v2, rfl, ht2, hb4⟩)
    have hS3 := hS.next hb4 hS.big
    have HT2 := Lib.hid (HT1.out.up hb4)
    have HT3 := Lib.hid ht2
    clear hb4 ht2 hS
    refine hK.out _ _ hS3 (fun hS => ?_)
    clear hK K hS3
    clear HT1 hcx hcy
    refine wpAnyH_ready (rs := [10]) (by kernel_rfl) (by simp) ?_
    refine AllReadyH.cons rfl (fun K hK => ?_) AllReadyH.nil
    go_simp
    go_wp2_with (go_at_call 63; refine (join_any _ _ _ _ _ HT2.out HT3.out).mono ?_; rintro e w5 ⟨v3, rfl, ht3, hb5⟩)
    have hS3 := hS.next hb5 hS.big
    have HT4 := Lib.hid ht3
    clear hb5 ht3 hS
    refine hK.out _ _ hS3 (fun hS => ?_)
    clear hK K hS3
    clear HT2 HT3
    obtain ⟨o5, A5, n5, c5, rfl⟩ := HT4.out.form
    have HS := Lib.hid hS
    obtain ⟨a0, a1, hbox, hbel, hbig⟩ := hS
    obtain ⟨u0, u1, ⟨c0, c1'⟩, f0, f1⟩ := hbox.facts
    have HFIN : Hid (∀ u1 u2, InT ((w5.setCell ⟨w.heap.size + 1, 0, none⟩ u1).setCell ⟨w.heap.size + 1, 1, none⟩ u2) ((w5.setCell ⟨w.heap.size + 1, 0, none⟩ u1).setCell ⟨w.heap.size + 1, 1, none⟩ u2).heap.size (x.norm.mk2 y.norm) (tv o5 A5 n5 c5) ∧ Below w.heap.size w ((w5.setCell ⟨w.heap.size + 1, 0, none⟩ u1).setCell ⟨w.heap.size + 1, 1, none⟩ u2)) := fun u1 u2 => store_two hbox HT4.out hbel (by omega)
    clear hbox hbel hbig HT4 a0 a1
    unfold tv
    refine wpAnyH_ready (rs := [11]) (by kernel_rfl) (by simp) ?_
    refine AllReadyH.cons rfl (fun K hK => ?_) AllReadyH.nil
    go_simp
    go_wp2
    refine hK.out _ _ ((HS.out.store 0 _).store 1 _) (fun _ => ?_)
    clear hK K HS
    refine wpAnyH_done (by kernel_rfl) ?_ _
    go_wp2
    refine bodyPost_ret (v := tv o5 A5 n5 c5) (by simp [results, Try.f36, go_sem, tv, c0, c1']) rfl ?_
    exact ⟨_, rfl, (HFIN.out _ _).1, (HFIN.out _ _).2⟩
end Go.Proofs.Ytkpefelakhbkhaa.I
