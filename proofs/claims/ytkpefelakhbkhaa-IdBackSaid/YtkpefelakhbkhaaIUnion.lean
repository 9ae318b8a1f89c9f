/-
  The program's union.
-/
import Derived.Test.YtkpefelakhbkhaaIOnly
import Derived.Test.YtkpefelakhbkhaaISMath
namespace Go.Proofs.Ytkpefelakhbkhaa.I
open Go.RowKit

/-- Two boxed trees, and a tree for the answer. -/
structure UB (w : World) (o1 : Bool) (A1 : Option Addr) (n1 c1 : Nat) (o2 : Bool) (A2 : Option Addr) (n2 c2 : Nat) (W : World) : Prop where
  a0 : W.cell? ⟨w.heap.size, 0, none⟩ = some (.bool o1)
  a1 : W.cell? ⟨w.heap.size, 1, none⟩ = some (.slice A1 n1 c1)
  b0 : W.cell? ⟨w.heap.size + 1, 0, none⟩ = some (.bool o2)
  b1 : W.cell? ⟨w.heap.size + 1, 1, none⟩ = some (.slice A2 n2 c2)
  box : Box2 W (w.heap.size + 1 + 1)
  bel : Below w.heap.size w W
  big : w.heap.size + 3 ≤ W.heap.size
theorem UB.start (w : World) (o1 : Bool) (A1 : Option Addr) (n1 c1 : Nat) (o2 : Bool) (A2 : Option Addr) (n2 c2 : Nat) : UB w o1 A1 n1 c1 o2 A2 n2 c2 (JW w o1 A1 n1 c1 o2 A2 n2 c2) := by
  obtain ⟨a0, a1, b0, b1, h, h1, h2⟩ := JB.start w o1 A1 n1 c1 o2 A2 n2 c2
  exact ⟨a0, a1, b0, b1, h.two, h1, h2⟩
section
variable {w : World} {o1 o2 : Bool} {A1 A2 : Option Addr} {n1 n2 c1 c2 : Nat} {W W' : World}
theorem UB.next (h : UB w o1 A1 n1 c1 o2 A2 n2 c2 W) {B : Nat} (hb : Below B W W') (hB : w.heap.size + 3 ≤ B) : UB w o1 A1 n1 c1 o2 A2 n2 c2 W' :=
  ⟨(hb.cell (by show w.heap.size < _; omega)).trans h.a0, (hb.cell (by show w.heap.size < _; omega)).trans h.a1, (hb.cell (by show w.heap.size + 1 < _; omega)).trans h.b0, (hb.cell (by show w.heap.size + 1 < _; omega)).trans h.b1, h.box.below hb (by omega), h.bel.trans (hb.mono (by omega)), Nat.le_trans h.big hb.size⟩
theorem UB.drew (h : UB w o1 A1 n1 c1 o2 A2 n2 c2 W) : UB w o1 A1 n1 c1 o2 A2 n2 c2 W.drew := h.next ((Below.refl W.heap.size W).drew) h.big
theorem UB.store (h : UB w o1 A1 n1 c1 o2 A2 n2 c2 W) (i : Nat) (u : Value) : UB w o1 A1 n1 c1 o2 A2 n2 c2 (W.setCell ⟨w.heap.size + 1 + 1, i, none⟩ u) :=
  ⟨(World.cell?_setCell_other _ _ _ _ (fun e => by injection e; omega)).trans h.a0, (World.cell?_setCell_other _ _ _ _ (fun e => by injection e; omega)).trans h.a1, (World.cell?_setCell_other _ _ _ _ (fun e => by injection e; omega)).trans h.b0, (World.cell?_setCell_other _ _ _ _ (fun e => by injection e; omega)).trans h.b1, h.box.set u,
   h.bel.setCell (p := ⟨w.heap.size + 1 + 1, i, none⟩) (by show w.heap.size ≤ w.heap.size + 1 + 1; omega) _, by simpa using h.big⟩
theorem UB.fin (h : UB w o1 A1 n1 c1 o2 A2 n2 c2 W) {t : Tr} {v : Value} (ht : InT W W.heap.size t v) (u1 u2 : Value) :
    InT ((W.setCell ⟨w.heap.size + 1 + 1, 0, none⟩ u1).setCell ⟨w.heap.size + 1 + 1, 1, none⟩ u2) ((W.setCell ⟨w.heap.size + 1 + 1, 0, none⟩ u1).setCell ⟨w.heap.size + 1 + 1, 1, none⟩ u2).heap.size t v ∧ Below w.heap.size w ((W.setCell ⟨w.heap.size + 1 + 1, 0, none⟩ u1).setCell ⟨w.heap.size + 1 + 1, 1, none⟩ u2) := store_two h.box ht h.bel (by omega)
end

set_option maxRecDepth 100000 in
set_option maxHeartbeats 6400000 in
theorem union_any : ∀ (x y : Tr) (u v : Value) (w : World), InT w w.heap.size x u → InT w w.heap.size y v → Calls Try.prog 45 #[u, v] w (Trees (sumT x y).norm w) := by
  intro x
  induction x with
  | leaf b =>
    rintro y u v w ⟨A1, c1, rfl⟩ hy
    cases b with
    | false =>
      obtain ⟨o2, A2, n2, c2, rfl⟩ := hy.form
      have HS0 := Lib.hid (UB.start w false A1 0 c1 o2 A2 n2 c2)
      have hclx0 := pleaf_any false A1 0 c1 (JW w false A1 0 c1 o2 A2 n2 c2)
      have hcn := fun W (h : Below w.heap.size w W) => norm_any y _ W (hy.up h)
      have HE : Hid (sumT (.leaf false) y = y) := by show _ = _; cases y <;> rfl
      unfold JW at HS0 hclx0
      unfold tv at hclx0 hcn ⊢
      rw [decide_eq_true rfl] at hclx0
      clear hy
      go_enter Try.func45, Try.ntmps45
      have hcall := hclx0
      go_wp2_with fail
      refine hcall.mono ?_
      rintro e w1 ⟨rfl, hbx⟩
      have HS1 := Lib.hid (HS0.out.next hbx (by simp))
      clear hbx hcall HS0
      obtain ⟨a0, a1, b0, b1, _, _, _⟩ := HS1.out
      have hcall := hcn w1 HS1.out.bel
      go_wp2_with fail
      refine hcall.mono ?_
      rintro e w9 ⟨v9, rfl, ht9, hb9⟩
      have HS9 := Lib.hid (HS1.out.next hb9 HS1.out.big)
      obtain ⟨o5, A5, n5, c5, rfl⟩ := ht9.form
      have HTT := Lib.hid ht9
      clear hb9 ht9 hcall HS1 a0 a1 b0 b1
      obtain ⟨y0, y1, ⟨d0, d1⟩, f0, f1⟩ := HS9.out.box.facts
      have HFIN := Lib.hid (fun u1 u2 => HS9.out.fin (t := _) (v := tv o5 A5 n5 c5) HTT.out u1 u2)
      clear HS9 HTT
      try unfold tv
      go_wp2
      refine bodyPost_ret (v := tv o5 A5 n5 c5) (by simp [results, Try.f45, go_sem, tv, d0, d1]) rfl ?_
      exact ⟨_, rfl, by rw [HE.out]; exact (HFIN.out _ _).1, (HFIN.out _ _).2⟩
    | true =>
      cases y with
      | leaf q =>
        obtain ⟨A2, c2, rfl⟩ := hy
        have HS0 := Lib.hid (UB.start w true A1 0 c1 q A2 0 c2)
        have hclx0 := pleaf_any true A1 0 c1 (JW w true A1 0 c1 q A2 0 c2)
        have hclx := fun W => pleaf_any true A1 0 c1 W
        have hcly := fun W => pleaf_any q A2 0 c2 W
        have hcn := fun W (_ : Below w.heap.size w W) => norm_any (.leaf true) (tv true A1 0 c1) W ⟨A1, c1, rfl⟩
        unfold JW at HS0 hclx0
        unfold tv at hclx0 hclx hcly hcn ⊢
        simp only [decide_true] at hclx0 hclx hcly
        cases q with
        | false =>
          go_enter Try.func45, Try.ntmps45
          have hcall := hclx0
          go_wp2_with fail
          refine hcall.mono ?_
          rintro e w1 ⟨rfl, hbx⟩
          have HS1 := Lib.hid (HS0.out.next hbx (by simp))
          clear hbx hcall HS0
          obtain ⟨a0, a1, b0, b1, _, _, _⟩ := HS1.out
          have hcall := hcly w1
          go_wp2_with fail
          refine hcall.mono ?_
          rintro e w2 ⟨rfl, hbx⟩
          have HS2 := Lib.hid (HS1.out.next hbx HS1.out.big)
          clear hbx hcall HS1
          clear a0 a1 b0 b1
          obtain ⟨a0, a1, b0, b1, _, _, _⟩ := HS2.out
          have hcall := hcn w2 HS2.out.bel
          go_wp2_with fail
          refine hcall.mono ?_
          rintro e w9 ⟨v9, rfl, ht9, hb9⟩
          have HS9 := Lib.hid (HS2.out.next hb9 HS2.out.big)
          obtain ⟨o5, A5, n5, c5, rfl⟩ := ht9.form
          have HTT := Lib.hid ht9
          clear hb9 ht9 hcall HS2 a0 a1 b0 b1
          obtain ⟨y0, y1, ⟨d0, d1⟩, f0, f1⟩ := HS9.out.box.facts
          have HFIN := Lib.hid (fun u1 u2 => HS9.out.fin (t := _) (v := tv o5 A5 n5 c5) HTT.out u1 u2)
          clear HS9 HTT
          try unfold tv
          go_wp2
          refine bodyPost_ret (v := tv o5 A5 n5 c5) (by simp [results, Try.f45, go_sem, tv, d0, d1]) rfl ?_
          exact ⟨_, rfl, (HFIN.out _ _).1, (HFIN.out _ _).2⟩
        | true =>
          go_enter Try.func45, Try.ntmps45
          have hcall := hclx0
          go_wp2_with fail
          refine hcall.mono ?_
          rintro e w1 ⟨rfl, hbx⟩
          have HS1 := Lib.hid (HS0.out.next hbx (by simp))
          clear hbx hcall HS0
          obtain ⟨a0, a1, b0, b1, _, _, _⟩ := HS1.out
          have hcall := hcly w1
          go_wp2_with fail
          refine hcall.mono ?_
          rintro e w2 ⟨rfl, hbx⟩
          have HS2 := Lib.hid (HS1.out.next hbx HS1.out.big)
          clear hbx hcall HS1
          clear a0 a1 b0 b1
          obtain ⟨a0, a1, b0, b1, _, _, _⟩ := HS2.out
          have hcall := hclx w2
          go_wp2_with fail
          refine hcall.mono ?_
          rintro e w3 ⟨rfl, hbx⟩
          have HS3 := Lib.hid (HS2.out.next hbx HS2.out.big)
          clear hbx hcall HS2
          clear a0 a1 b0 b1
          obtain ⟨a0, a1, b0, b1, _, _, _⟩ := HS3.out
          have HTT : Hid (InT w3 w3.heap.size (.leaf true) (tv true none 0 0)) := ⟨none, 0, rfl⟩
          clear a0 a1 b0 b1
          obtain ⟨y0, y1, ⟨d0, d1⟩, f0, f1⟩ := HS3.out.box.facts
          have HFIN := Lib.hid (fun u1 u2 => HS3.out.fin (t := _) (v := tv true none 0 0) HTT.out u1 u2)
          clear HS3 HTT
          try unfold tv
          go_wp2
          refine bodyPost_ret (v := tv true none 0 0) (by simp [results, Try.f45, go_sem, tv, d0, d1]) rfl ?_
          exact ⟨_, rfl, (HFIN.out _ _).1, (HFIN.out _ _).2⟩
      | node yl yr =>
        obtain ⟨b', off', c', rfl, _⟩ := hy
        have HS0 := Lib.hid (UB.start w true A1 0 c1 false (some ⟨b', off', none⟩) 2 c')
        have hclx0 := pleaf_any true A1 0 c1 (JW w true A1 0 c1 false (some ⟨b', off', none⟩) 2 c')
        have hclx := fun W => pleaf_any true A1 0 c1 W
        have hcly := fun W => pleaf_any false (some ⟨b', off', none⟩) 2 c' W
        unfold JW at HS0 hclx0
        unfold tv at hclx0 hclx hcly ⊢
        simp only [decide_true, show decide (2 = 0) = false from rfl] at hclx0 hclx hcly
        go_enter Try.func45, Try.ntmps45
        have hcall := hclx0
        go_wp2_with fail
        refine hcall.mono ?_
        rintro e w1 ⟨rfl, hbx⟩
        have HS1 := Lib.hid (HS0.out.next hbx (by simp))
        clear hbx hcall HS0
        obtain ⟨a0, a1, b0, b1, _, _, _⟩ := HS1.out
        have hcall := hcly w1
        go_wp2_with fail
        refine hcall.mono ?_
        rintro e w2 ⟨rfl, hbx⟩
        have HS2 := Lib.hid (HS1.out.next hbx HS1.out.big)
        clear hbx hcall HS1
        clear a0 a1 b0 b1
        obtain ⟨a0, a1, b0, b1, _, _, _⟩ := HS2.out
        have hcall := hclx w2
        go_wp2_with fail
        refine hcall.mono ?_
        rintro e w3 ⟨rfl, hbx⟩
        have HS3 := Lib.hid (HS2.out.next hbx HS2.out.big)
        clear hbx hcall HS2
        clear a0 a1 b0 b1
        obtain ⟨a0, a1, b0, b1, _, _, _⟩ := HS3.out
        have HTT : Hid (InT w3 w3.heap.size (.leaf true) (tv true none 0 0)) := ⟨none, 0, rfl⟩
        clear a0 a1 b0 b1
        obtain ⟨y0, y1, ⟨d0, d1⟩, f0, f1⟩ := HS3.out.box.facts
        have HFIN := Lib.hid (fun u1 u2 => HS3.out.fin (t := _) (v := tv true none 0 0) HTT.out u1 u2)
        clear HS3 HTT
        try unfold tv
        go_wp2
        refine bodyPost_ret (v := tv true none 0 0) (by simp [results, Try.f45, go_sem, tv, d0, d1]) rfl ?_
        exact ⟨_, rfl, (HFIN.out _ _).1, (HFIN.out _ _).2⟩
  | node xl xr ihl ihr =>
    intro y u v w hx hy
    obtain ⟨b, off, c, rfl, hb, ⟨o1, A1, n1, c1, e1, e2, e3⟩, ⟨o2, A2, n2, c2, g1, g2, g3⟩⟩ := id hx
    cases y with
    | leaf q =>
      obtain ⟨A4, c4, rfl⟩ := hy
      have HS0 := Lib.hid (UB.start w false (some ⟨b, off, none⟩) 2 c q A4 0 c4)
      have hclx0 := pleaf_any false (some ⟨b, off, none⟩) 2 c (JW w false (some ⟨b, off, none⟩) 2 c q A4 0 c4)
      have hclx := fun W => pleaf_any false (some ⟨b, off, none⟩) 2 c W
      have hcly := fun W => pleaf_any q A4 0 c4 W
      have hcn := fun W (h : Below w.heap.size w W) => norm_any (.node xl xr) _ W (hx.up h)
      unfold JW at HS0 hclx0
      unfold tv at hclx0 hclx hcly hcn ⊢
      simp only [decide_true, show decide (2 = 0) = false from rfl] at hclx0 hclx hcly
      clear hx e1 e2 e3 g1 g2 g3 ihl ihr
      cases q with
      | false =>
        go_enter Try.func45, Try.ntmps45
        have hcall := hclx0
        go_wp2_with fail
        refine hcall.mono ?_
        rintro e w1 ⟨rfl, hbx⟩
        have HS1 := Lib.hid (HS0.out.next hbx (by simp))
        clear hbx hcall HS0
        obtain ⟨a0, a1, b0, b1, _, _, _⟩ := HS1.out
        have hcall := hcly w1
        go_wp2_with fail
        refine hcall.mono ?_
        rintro e w2 ⟨rfl, hbx⟩
        have HS2 := Lib.hid (HS1.out.next hbx HS1.out.big)
        clear hbx hcall HS1
        clear a0 a1 b0 b1
        obtain ⟨a0, a1, b0, b1, _, _, _⟩ := HS2.out
        have hcall := hcn w2 HS2.out.bel
        go_wp2_with fail
        refine hcall.mono ?_
        rintro e w9 ⟨v9, rfl, ht9, hb9⟩
        have HS9 := Lib.hid (HS2.out.next hb9 HS2.out.big)
        obtain ⟨o5, A5, n5, c5, rfl⟩ := ht9.form
        have HTT := Lib.hid ht9
        clear hb9 ht9 hcall HS2 a0 a1 b0 b1
        obtain ⟨y0, y1, ⟨d0, d1⟩, f0, f1⟩ := HS9.out.box.facts
        have HFIN := Lib.hid (fun u1 u2 => HS9.out.fin (t := _) (v := tv o5 A5 n5 c5) HTT.out u1 u2)
        clear HS9 HTT
        try unfold tv
        go_wp2
        refine bodyPost_ret (v := tv o5 A5 n5 c5) (by simp [results, Try.f45, go_sem, tv, d0, d1]) rfl ?_
        exact ⟨_, rfl, (HFIN.out _ _).1, (HFIN.out _ _).2⟩
      | true =>
        go_enter Try.func45, Try.ntmps45
        have hcall := hclx0
        go_wp2_with fail
        refine hcall.mono ?_
        rintro e w1 ⟨rfl, hbx⟩
        have HS1 := Lib.hid (HS0.out.next hbx (by simp))
        clear hbx hcall HS0
        obtain ⟨a0, a1, b0, b1, _, _, _⟩ := HS1.out
        have hcall := hcly w1
        go_wp2_with fail
        refine hcall.mono ?_
        rintro e w2 ⟨rfl, hbx⟩
        have HS2 := Lib.hid (HS1.out.next hbx HS1.out.big)
        clear hbx hcall HS1
        clear a0 a1 b0 b1
        obtain ⟨a0, a1, b0, b1, _, _, _⟩ := HS2.out
        have hcall := hclx w2
        go_wp2_with fail
        refine hcall.mono ?_
        rintro e w3 ⟨rfl, hbx⟩
        have HS3 := Lib.hid (HS2.out.next hbx HS2.out.big)
        clear hbx hcall HS2
        clear a0 a1 b0 b1
        obtain ⟨a0, a1, b0, b1, _, _, _⟩ := HS3.out
        have hcall := hcly w3
        go_wp2_with fail
        refine hcall.mono ?_
        rintro e w4 ⟨rfl, hbx⟩
        have HS4 := Lib.hid (HS3.out.next hbx HS3.out.big)
        clear hbx hcall HS3
        clear a0 a1 b0 b1
        obtain ⟨a0, a1, b0, b1, _, _, _⟩ := HS4.out
        have HTT : Hid (InT w4 w4.heap.size (.leaf true) (tv true none 0 0)) := ⟨none, 0, rfl⟩
        clear a0 a1 b0 b1
        obtain ⟨y0, y1, ⟨d0, d1⟩, f0, f1⟩ := HS4.out.box.facts
        have HFIN := Lib.hid (fun u1 u2 => HS4.out.fin (t := _) (v := tv true none 0 0) HTT.out u1 u2)
        clear HS4 HTT
        try unfold tv
        go_wp2
        refine bodyPost_ret (v := tv true none 0 0) (by simp [results, Try.f45, go_sem, tv, d0, d1]) rfl ?_
        exact ⟨_, rfl, (HFIN.out _ _).1, (HFIN.out _ _).2⟩
    | node yl yr =>
      obtain ⟨b', off', c', rfl, hb', ⟨o3, A3, n3, c3, e4, e5, e6⟩, ⟨o4, A4, n4, c4, g4, g5, g6⟩⟩ := hy
      have HS0 := Lib.hid (UB.start w false (some ⟨b, off, none⟩) 2 c false (some ⟨b', off', none⟩) 2 c')
      have hclx0 := pleaf_any false (some ⟨b, off, none⟩) 2 c (JW w false (some ⟨b, off, none⟩) 2 c false (some ⟨b', off', none⟩) 2 c')
      have hclx := fun W => pleaf_any false (some ⟨b, off, none⟩) 2 c W
      have hcly := fun W => pleaf_any false (some ⟨b', off', none⟩) 2 c' W
      have HF : Hid (∀ W, UB w false (some ⟨b, off, none⟩) 2 c false (some ⟨b', off', none⟩) 2 c' W → W.cell? ⟨w.heap.size, 1, none⟩ = some (.slice (some ⟨b, off, none⟩) 2 c) ∧ W.cell? ⟨w.heap.size + 1, 1, none⟩ = some (.slice (some ⟨b', off', none⟩) 2 c') ∧
          W.cell? ⟨b, off, none⟩ = some (.bool o1) ∧ W.cell? ⟨b, off + 1, none⟩ = some (.slice A1 n1 c1) ∧ W.cell? ⟨b, off + 2, none⟩ = some (.bool o2) ∧ W.cell? ⟨b, off + 2 + 1, none⟩ = some (.slice A2 n2 c2) ∧
          W.cell? ⟨b', off', none⟩ = some (.bool o3) ∧ W.cell? ⟨b', off' + 1, none⟩ = some (.slice A3 n3 c3) ∧ W.cell? ⟨b', off' + 2, none⟩ = some (.bool o4) ∧ W.cell? ⟨b', off' + 2 + 1, none⟩ = some (.slice A4 n4 c4)) := fun W hW => by
        have low : ∀ i, W.cell? ⟨b, i, none⟩ = w.cell? ⟨b, i, none⟩ := fun i => hW.bel.cell hb
        have low' : ∀ i, W.cell? ⟨b', i, none⟩ = w.cell? ⟨b', i, none⟩ := fun i => hW.bel.cell hb'
        exact ⟨hW.a1, hW.b1, (low _).trans e1, (low _).trans e2, (low _).trans g1, (low _).trans g2, (low' _).trans e4, (low' _).trans e5, (low' _).trans g4, (low' _).trans g5⟩
      have hcx : ∀ W, UB w false (some ⟨b, off, none⟩) 2 c false (some ⟨b', off', none⟩) 2 c' W → Calls Try.prog 45 #[.agg #[.bool o1, .slice A1 n1 c1], .agg #[.bool o3, .slice A3 n3 c3]] W (Trees (sumT xl yl).norm W) := fun W hW => ihl yl _ _ W (e3.up hW.bel) (e6.up hW.bel)
      have hcy : ∀ W, UB w false (some ⟨b, off, none⟩) 2 c false (some ⟨b', off', none⟩) 2 c' W → Calls Try.prog 45 #[.agg #[.bool o2, .slice A2 n2 c2], .agg #[.bool o4, .slice A4 n4 c4]] W (Trees (sumT xr yr).norm W) := fun W hW => ihr yr _ _ W (g3.up hW.bel) (g6.up hW.bel)
      unfold JW at HS0 hclx0
      unfold tv at hclx0 hclx hcly ⊢
      simp only [show decide (2 = 0) = false from rfl] at hclx0 hclx hcly
      clear hx e1 e2 e3 g1 g2 g3 e4 e5 e6 g4 g5 g6 ihl ihr
      go_enter Try.func45, Try.ntmps45
      have hcall := hclx0
      go_wp2_with fail
      refine hcall.mono ?_
      rintro e w1 ⟨rfl, hbx⟩
      have HS1 := Lib.hid (HS0.out.next hbx (by simp))
      clear hbx hcall HS0
      obtain ⟨a0, a1, b0, b1, _, _, _⟩ := HS1.out
      have hcall := hcly w1
      go_wp2_with fail
      refine hcall.mono ?_
      rintro e w2 ⟨rfl, hbx⟩
      have HS2 := Lib.hid (HS1.out.next hbx HS1.out.big)
      clear hbx hcall HS1
      clear a0 a1 b0 b1
      obtain ⟨a0, a1, b0, b1, _, _, _⟩ := HS2.out
      have hcall := hclx w2
      go_wp2_with fail
      refine hcall.mono ?_
      rintro e w3 ⟨rfl, hbx⟩
      have HS3 := Lib.hid (HS2.out.next hbx HS2.out.big)
      clear hbx hcall HS2
      clear a0 a1 b0 b1
      obtain ⟨a0, a1, b0, b1, _, _, _⟩ := HS3.out
      have hcall := hcly w3
      go_wp2_with fail
      refine hcall.mono ?_
      rintro e w4 ⟨rfl, hbx⟩
      have HS4 := Lib.hid (HS3.out.next hbx HS3.out.big)
      clear hbx hcall HS3
      clear a0 a1 b0 b1
      have HU := HS4.out
      clear HS4 hclx0 hclx hcly
      go_wp2
      refine wp_region_held_drew (S := fun W => UB w false (some ⟨b, off, none⟩) 2 c false (some ⟨b', off', none⟩) 2 c' W) (by kernel_rfl) HU.drew (fun hS => ?_)
      clear HU
      generalize w4.drew = wd at hS ⊢
      refine wpAnyH_take (i := 0) (v := ?_) rfl (by kernel_rfl) (by kernel_rfl) (by kernel_rfl) (fun _ _ _ h => h) (Yields.yieldsIf (Or.inl ⟨by kernel_rfl, ?_⟩)) hS ?_
      rotate_left
      · first | (intro w; go_simp; done) | (intro w; go_simp; with_reducible rfl)
      refine wpAnyH_take (i := 1) (v := ?_) rfl (by kernel_rfl) (by kernel_rfl) (by kernel_rfl) (fun _ _ _ h => h) (Or.inl ⟨by kernel_rfl, fun W hW => ?_⟩) hS ?_
      rotate_left
      · obtain ⟨f0, f1, f2, f3, f4, f5, f6, f7, f8, f9⟩ := HF.out W hW
        first | (go_simp; done) | (go_simp; with_reducible rfl)
      refine wpAnyH_take (i := 2) (v := ?_) rfl (by kernel_rfl) (by kernel_rfl) (by kernel_rfl) (fun _ _ _ h => h) (Yields.yieldsIf (Or.inl ⟨by kernel_rfl, ?_⟩)) hS ?_
      rotate_left
      · first | (intro w; go_simp; done) | (intro w; go_simp; with_reducible rfl)
      refine wpAnyH_take (i := 3) (v := ?_) rfl (by kernel_rfl) (by kernel_rfl) (by kernel_rfl) (fun _ _ _ h => h) (Or.inl ⟨by kernel_rfl, fun W hW => ?_⟩) hS ?_
      rotate_left
      · obtain ⟨f0, f1, f2, f3, f4, f5, f6, f7, f8, f9⟩ := HF.out W hW
        first | (go_simp; done) | (go_simp; with_reducible rfl)
      refine wpAnyH_take (i := 4) (v := ?_) rfl (by kernel_rfl) (by kernel_rfl) (by kernel_rfl) (fun _ _ _ h => h) (Yields.yieldsIf (Or.inl ⟨by kernel_rfl, ?_⟩)) hS ?_
      rotate_left
      · first | (intro w; go_simp; done) | (intro w; go_simp; with_reducible rfl)
      refine wpAnyH_take (i := 5) (v := ?_) rfl (by kernel_rfl) (by kernel_rfl) (by kernel_rfl) (fun _ _ _ h => h) (Or.inl ⟨by kernel_rfl, fun W hW => ?_⟩) hS ?_
      rotate_left
      · obtain ⟨f0, f1, f2, f3, f4, f5, f6, f7, f8, f9⟩ := HF.out W hW
        first | (go_simp; done) | (go_simp; with_reducible rfl)
      refine wpAnyH_take (i := 6) (v := ?_) rfl (by kernel_rfl) (by kernel_rfl) (by kernel_rfl) (fun _ _ _ h => h) (Yields.yieldsIf (Or.inl ⟨by kernel_rfl, ?_⟩)) hS ?_
      rotate_left
      · first | (intro w; go_simp; done) | (intro w; go_simp; with_reducible rfl)
      refine wpAnyH_take (i := 7) (v := ?_) rfl (by kernel_rfl) (by kernel_rfl) (by kernel_rfl) (fun _ _ _ h => h) (Or.inl ⟨by kernel_rfl, fun W hW => ?_⟩) hS ?_
      rotate_left
      · obtain ⟨f0, f1, f2, f3, f4, f5, f6, f7, f8, f9⟩ := HF.out W hW
        first | (go_simp; done) | (go_simp; with_reducible rfl)
      refine wpAnyH_take (i := 9) (v := ?_) rfl (by kernel_rfl) (by kernel_rfl) (by kernel_rfl) (fun _ _ _ h => h) (Yields.yieldsIf (Or.inl ⟨by kernel_rfl, ?_⟩)) hS ?_
      rotate_left
      · first | (intro w; go_simp; done) | (intro w; go_simp; with_reducible rfl)
      refine wpAnyH_take (i := 10) (v := ?_) rfl (by kernel_rfl) (by kernel_rfl) (by kernel_rfl) (fun _ _ _ h => h) (Or.inl ⟨by kernel_rfl, fun W hW => ?_⟩) hS ?_
      rotate_left
      · obtain ⟨f0, f1, f2, f3, f4, f5, f6, f7, f8, f9⟩ := HF.out W hW
        first | (go_simp; done) | (go_simp; with_reducible rfl)
      refine wpAnyH_take (i := 11) (v := ?_) rfl (by kernel_rfl) (by kernel_rfl) (by kernel_rfl) (fun _ _ _ h => h) (Yields.yieldsIf (Or.inl ⟨by kernel_rfl, ?_⟩)) hS ?_
      rotate_left
      · first | (intro w; go_simp; done) | (intro w; go_simp; with_reducible rfl)
      refine wpAnyH_take (i := 12) (v := ?_) rfl (by kernel_rfl) (by kernel_rfl) (by kernel_rfl) (fun _ _ _ h => h) (Or.inl ⟨by kernel_rfl, fun W hW => ?_⟩) hS ?_
      rotate_left
      · obtain ⟨f0, f1, f2, f3, f4, f5, f6, f7, f8, f9⟩ := HF.out W hW
        first | (go_simp; done) | (go_simp; with_reducible rfl)
      refine wpAnyH_take (i := 13) (v := ?_) rfl (by kernel_rfl) (by kernel_rfl) (by kernel_rfl) (fun _ _ _ h => h) (Yields.yieldsIf (Or.inl ⟨by kernel_rfl, ?_⟩)) hS ?_
      rotate_left
      · first | (intro w; go_simp; done) | (intro w; go_simp; with_reducible rfl)
      refine wpAnyH_take (i := 14) (v := ?_) rfl (by kernel_rfl) (by kernel_rfl) (by kernel_rfl) (fun _ _ _ h => h) (Or.inl ⟨by kernel_rfl, fun W hW => ?_⟩) hS ?_
      rotate_left
      · obtain ⟨f0, f1, f2, f3, f4, f5, f6, f7, f8, f9⟩ := HF.out W hW
        first | (go_simp; done) | (go_simp; with_reducible rfl)
      refine wpAnyH_take (i := 15) (v := ?_) rfl (by kernel_rfl) (by kernel_rfl) (by kernel_rfl) (fun _ _ _ h => h) (Yields.yieldsIf (Or.inl ⟨by kernel_rfl, ?_⟩)) hS ?_
      rotate_left
      · first | (intro w; go_simp; done) | (intro w; go_simp; with_reducible rfl)
      refine wpAnyH_take (i := 16) (v := ?_) rfl (by kernel_rfl) (by kernel_rfl) (by kernel_rfl) (fun _ _ _ h => h) (Or.inl ⟨by kernel_rfl, fun W hW => ?_⟩) hS ?_
      rotate_left
      · obtain ⟨f0, f1, f2, f3, f4, f5, f6, f7, f8, f9⟩ := HF.out W hW
        first | (go_simp; done) | (go_simp; with_reducible rfl)
      refine wpAnyH_ready (rs := [8]) (by kernel_rfl) (by simp) ?_
      refine AllReadyH.cons rfl (fun K hK => ?_) AllReadyH.nil
      go_simp
      go_wp2_with (go_at_call 45; refine (hcx _ hS).mono ?_; rintro e w5 ⟨v1, rfl, ht1, hb5⟩)
      have hS3 := hS.next hb5 hS.big
      have HT1 := Lib.hid ht1
      clear hb5 ht1 hS
      refine hK.out _ _ hS3 (fun hS => ?_)
      clear hK K hS3
      refine wpAnyH_ready (rs := [17]) (by kernel_rfl) (by simp) ?_
      refine AllReadyH.cons rfl (fun K hK => ?_) AllReadyH.nil
      go_simp
      go_wp2_with (go_at_call 45; refine (hcy _ hS).mono ?_; rintro e w6 ⟨v2, rfl, ht2, hb6⟩)
      have hS3 := hS.next hb6 hS.big
      have HT2 := Lib.hid (HT1.out.up hb6)
      have HT3 := Lib.hid ht2
      clear hb6 ht2 hS HT1
      refine hK.out _ _ hS3 (fun hS => ?_)
      clear hK K hS3
      refine wpAnyH_ready (rs := [18]) (by kernel_rfl) (by simp) ?_
      refine AllReadyH.cons rfl (fun K hK => ?_) AllReadyH.nil
      go_simp
      go_wp2_with (go_at_call 63; refine (join_any _ _ _ _ _ HT2.out HT3.out).mono ?_; rintro e w7 ⟨v3, rfl, ht3, hb7⟩)
      have hS3 := hS.next hb7 hS.big
      have HT4 := Lib.hid ht3
      clear hb7 ht3 hS HT2 HT3
      refine hK.out _ _ hS3 (fun hS => ?_)
      clear hK K hS3
      obtain ⟨o5, A5, n5, c5, rfl⟩ := HT4.out.form
      have HS := Lib.hid hS
      obtain ⟨y0, y1, ⟨d0, d1⟩, f0, f1⟩ := hS.box.facts
      have HFIN := Lib.hid (fun u1 u2 => hS.fin HT4.out u1 u2)
      clear hS HT4 hcx hcy HF
      unfold tv
      refine wpAnyH_ready (rs := [19]) (by kernel_rfl) (by simp) ?_
      refine AllReadyH.cons rfl (fun K hK => ?_) AllReadyH.nil
      go_simp
      go_wp2
      refine hK.out _ _ ((HS.out.store 0 _).store 1 _) (fun _ => ?_)
      clear hK K HS
      refine wpAnyH_done (by kernel_rfl) ?_ _
      go_wp2
      refine bodyPost_ret (v := tv o5 A5 n5 c5) (by simp [results, Try.f45, go_sem, tv, d0, d1]) rfl ?_
      exact ⟨_, rfl, (HFIN.out _ _).1, (HFIN.out _ _).2⟩
end Go.Proofs.Ytkpefelakhbkhaa.I
