/-
  What trees denote, path by path; the facts on normal forms, sums and splits that follow. No program here.
-/
import Derived.Test.YtoaglkjpjolacaaDoorCIPair
import Derived.Test.YtoaglkjpjolacaaDoorCISplit
import Derived.Test.YtoaglkjpjolacaaDoorCI2
namespace Go.Proofs.YtoaglkjpjolacaaDoor.I
def tl (f : Nat → Bool) : Nat → Bool := fun n => f (n + 1)
def ct (b : Bool) (f : Nat → Bool) : Nat → Bool := fun n => match n with | 0 => b | n + 1 => f n
/-- Is the point that a path leads to in the tree's part? -/
def den : Tr → (Nat → Bool) → Bool
  | .leaf o, _ => o
  | .node l r, f => if f 0 = true then den r (tl f) else den l (tl f)
theorem den_false (l r : Tr) (f : Nat → Bool) : den (.node l r) (ct false f) = den l f := rfl
theorem den_true (l r : Tr) (f : Nat → Bool) : den (.node l r) (ct true f) = den r f := rfl
theorem den_mk2 (a b : Tr) (f : Nat → Bool) : den (a.mk2 b) f = den (.node a b) f := by
  cases a with
  | leaf x =>
    cases b with
    | leaf y =>
      simp only [Tr.mk2]
      split
      · rename_i h; subst h; simp [den]
      · rfl
    | node _ _ => rfl
  | node _ _ => cases b <;> rfl
theorem den_norm : ∀ (t : Tr) (f : Nat → Bool), den t.norm f = den t f
  | .leaf o, f => rfl
  | .node l r, f => by rw [Tr.norm, den_mk2]; simp only [den]; rw [den_norm l, den_norm r]
theorem norm_norm : ∀ t : Tr, t.norm.norm = t.norm
  | .leaf _ => rfl
  | .node l r => by
    have hl := norm_norm l
    have hr := norm_norm r
    rw [Tr.norm]
    generalize l.norm = a at *
    generalize r.norm = b at *
    have key : (a.mk2 b).norm = a.norm.mk2 b.norm := by
      cases a with
      | leaf x =>
        cases b with
        | leaf y =>
          by_cases e : x = y
          · subst e; simp [Tr.mk2, Tr.norm]
          · simp [Tr.mk2, Tr.norm, e]
        | node _ _ => rfl
      | node _ _ => cases b <;> rfl
    rw [key, hl, hr]
theorem den_all (t : Tr) (o : Bool) : (∀ f, den t f = o) ↔ t.norm = .leaf o := by
  constructor
  · induction t with
    | leaf x => intro h; have := h (fun _ => false); simp only [den] at this; rw [Tr.norm, this]
    | node l r ihl ihr =>
      intro h
      rw [Tr.norm, ihl fun f => (den_false l r f).symm.trans (h _), ihr fun f => (den_true l r f).symm.trans (h _), Tr.mk2_same]
  · intro h f
    rw [← den_norm, h]; rfl
theorem norm_of_den : ∀ (a b : Tr), (∀ f, den a f = den b f) → a.norm = b.norm
  | .leaf o, b, h => ((den_all b o).1 fun f => (h f).symm).symm
  | .node l r, .leaf o, h => (den_all (.node l r) o).1 fun f => h f
  | .node l r, .node c d, h => by
    rw [Tr.norm, Tr.norm, norm_of_den l c fun f => (h (ct false f)), norm_of_den r d fun f => (h (ct true f))]
theorem norm_iff_den (a b : Tr) : a.norm = b.norm ↔ ∀ f, den a f = den b f :=
  ⟨fun h f => by rw [← den_norm a, h, den_norm], norm_of_den a b⟩
theorem onlyT_den (b : Bool) (t : Tr) : onlyT b t = true ↔ ∀ f, den t f = b := by rw [onlyT_norm, eqT_iff, den_all]
theorem den_sum : ∀ (a b : Tr) (f : Nat → Bool), den (sumT a b) f = (den a f || den b f)
  | .leaf false, b, f => by cases b <;> simp [sumT, den]
  | .leaf true, b, f => by simp [sumT, den]
  | .node l r, .leaf false, f => by simp [sumT, den]
  | .node l r, .leaf true, f => by simp [sumT, den]
  | .node l r, .node c d, f => by
    simp only [sumT, den]
    split
    · exact den_sum r d (tl f)
    · exact den_sum l c (tl f)
theorem not_only (t : Tr) : (!(eqT t.norm (.leaf false))) = true ↔ ∃ f, den t f = true := by
  rw [← onlyT_norm]
  constructor
  · intro h
    refine Classical.byContradiction fun hn => ?_
    rw [(onlyT_den false t).2 fun f => by cases e : den t f; rfl; exact absurd ⟨f, e⟩ hn] at h
    cases h
  · rintro ⟨f, hf⟩
    cases e : onlyT false t with
    | false => rfl
    | true => rw [(onlyT_den false t).1 e f] at hf; cases hf
theorem both_den : ∀ (a b : Tr), bothT a b = true ↔ ∃ f, den a f = true ∧ den b f = true
  | .leaf false, b => by simp [bothT, den]
  | .leaf true, b => by
    rw [bothT, not_only]
    exact ⟨fun ⟨f, h⟩ => ⟨f, rfl, h⟩, fun ⟨f, _, h⟩ => ⟨f, h⟩⟩
  | .node l r, .leaf o => by
    rw [bothT, Bool.and_eq_true_iff, not_only]
    exact ⟨fun ⟨h, f, h2⟩ => ⟨f, h2, h⟩, fun ⟨f, h2, h⟩ => ⟨h, f, h2⟩⟩
  | .node l r, .node c d => by
    rw [bothT, Bool.or_eq_true_iff, both_den l c, both_den r d]
    constructor
    · rintro (⟨f, h1, h2⟩ | ⟨f, h1, h2⟩)
      · exact ⟨ct false f, h1, h2⟩
      · exact ⟨ct true f, h1, h2⟩
    · rintro ⟨f, h1, h2⟩
      simp only [den] at h1 h2
      by_cases e : f 0 = true
      · rw [if_pos e] at h1 h2; exact .inr ⟨_, h1, h2⟩
      · rw [if_neg e] at h1 h2; exact .inl ⟨_, h1, h2⟩
theorem both_false (a b : Tr) : bothT a b = false ↔ ∀ f, den a f = true → den b f = false := by
  constructor
  · intro h f h1
    cases e : den b f with
    | false => rfl
    | true => rw [(both_den a b).2 ⟨f, h1, e⟩] at h; cases h
  · intro h
    cases e : bothT a b with
    | false => rfl
    | true => obtain ⟨f, h1, h2⟩ := (both_den a b).1 e; rw [h f h1] at h2; cases h2
/-- A node's split. -/
theorem split_cases (x y : Tr) : (x = .leaf false ∧ splitT (.node x y) = (.node (.leaf false) (splitT y).1, .node (.leaf false) (splitT y).2)) ∨
    (x ≠ .leaf false ∧ y = .leaf false ∧ splitT (.node x y) = (.node (splitT x).1 (.leaf false), .node (splitT x).2 (.leaf false))) ∨
    (x ≠ .leaf false ∧ y ≠ .leaf false ∧ splitT (.node x y) = (.node x (.leaf false), .node (.leaf false) y)) := by
  cases x with
  | leaf o =>
    cases o
    · exact .inl ⟨rfl, by simp [splitT]⟩
    · cases y with
      | leaf q =>
        cases q
        · exact .inr (.inl ⟨by simp, rfl, by simp [splitT]⟩)
        · exact .inr (.inr ⟨by simp, by simp, by simp [splitT]⟩)
      | node _ _ => exact .inr (.inr ⟨by simp, by simp, by simp [splitT]⟩)
  | node _ _ =>
    cases y with
    | leaf q =>
      cases q
      · exact .inr (.inl ⟨by simp, rfl, by simp [splitT]⟩)
      · exact .inr (.inr ⟨by simp, by simp, by simp [splitT]⟩)
    | node _ _ => exact .inr (.inr ⟨by simp, by simp, by simp [splitT]⟩)
/-- A split's parts. -/
theorem split_or : ∀ (t : Tr) (f : Nat → Bool), (den (splitT t).1 f || den (splitT t).2 f) = den t f ∧ (den (splitT t).1 f && den (splitT t).2 f) = false := by
  intro t
  induction t with
  | leaf o => intro f; cases o <;> simp only [splitT, den] <;> cases f 0 <;> simp
  | node x y ihx ihy =>
    intro f
    have h1 := ihx (tl f)
    have h2 := ihy (tl f)
    rcases split_cases x y with ⟨rfl, e⟩ | ⟨_, rfl, e⟩ | ⟨_, _, e⟩
    · rw [e]
      simp only [den]
      cases f 0
      · simp
      · simpa using h2
    · rw [e]
      simp only [den]
      cases f 0
      · simpa using h1
      · simp
    · rw [e]
      simp only [den]
      cases f 0 <;> simp
/-- A normal form's kids are normal forms. -/
theorem norm_kids {x y : Tr} (h : (Tr.node x y).norm = .node x y) : x.norm = x ∧ y.norm = y := by
  rw [Tr.norm] at h
  generalize x.norm = a at *
  generalize y.norm = b at *
  cases a with
  | leaf p =>
    cases b with
    | leaf q =>
      simp only [Tr.mk2] at h
      split at h
      · cases h
      · injection h with h1 h2; exact ⟨h1, h2⟩
    | node _ _ => simp only [Tr.mk2] at h; injection h with h1 h2; exact ⟨h1, h2⟩
  | node _ _ => cases b <;> (simp only [Tr.mk2] at h; injection h with h1 h2; exact ⟨h1, h2⟩)
theorem split_none : ∀ (t : Tr), t.norm = t → ((splitT t).1.norm = .leaf false ↔ t = .leaf false) ∧ ((splitT t).2.norm = .leaf false ↔ t = .leaf false) := by
  intro t
  have nl : ∀ a b : Tr, (Tr.node a b).norm = .leaf false ↔ a.norm = .leaf false ∧ b.norm = .leaf false := fun a b => by
    rw [Tr.norm]
    exact ⟨Tr.mk2_leaf, fun ⟨h1, h2⟩ => by rw [h1, h2, Tr.mk2_same]⟩
  induction t with
  | leaf o =>
    intro _
    cases o <;> simp [splitT, Tr.norm, Tr.mk2]
  | node x y ihx ihy =>
    intro h
    obtain ⟨hx, hy⟩ := norm_kids h
    have hne : ¬ (x = .leaf false ∧ y = .leaf false) := by
      rintro ⟨rfl, rfl⟩; simp [Tr.norm, Tr.mk2] at h
    have ln : (Tr.leaf false).norm = .leaf false := rfl
    have i1 := ihx hx
    have i2 := ihy hy
    rcases split_cases x y with ⟨h1, e⟩ | ⟨h1, h2, e⟩ | ⟨h1, h2, e⟩
    · have hy' : ¬ y = .leaf false := fun h2 => hne ⟨h1, h2⟩
      rw [e]
      simp only [nl, i2.1, i2.2, ln, true_and, hy', false_iff]
      simp
    · rw [e]
      simp only [nl, i1.1, i1.2, ln, and_true, h1, false_iff]
      simp
    · rw [e]
      simp only [nl, hx, hy, ln, and_true, true_and, h1, h2, false_iff]
      simp
end Go.Proofs.YtoaglkjpjolacaaDoor.I
namespace Go.Proofs.YtoaglkjpjolacaaDoor.I
open Go.RowKit
/-- Two boxed trees, and a tree for the answer. -/
structure UB (w : World) (o1 : Bool) (A1 : Option Addr) (n1 c1 : Nat) (o2 : Bool) (A2 : Option Addr) (n2 c2 : Nat) (W : World) : Prop where
  a0 : W.cell? ⟨w.heap.size, 0, none⟩ = some (.bool o1)
  a1 : W.cell? ⟨w.heap.size, 1, none⟩ = some (.slice A1 n1 c1)
  b0 : W.cell? ⟨w.heap.size + 1, 0, none⟩ = some (.bool o2)
  b1 : W.cell? ⟨w.heap.size + 1, 1, none⟩ = some (.slice A2 n2 c2)
  box : Box2 W (w.heap.size + 1 + 1)
  bel : Below w.heap.size w W
  big : w.heap.size + 3 ≤ W.heap.size
theorem UB.start (w : World) (o1 : Bool) (A1 : Option Addr) (n1 c1 : Nat) (o2 : Bool) (A2 : Option Addr) (n2 c2 : Nat) : UB w o1 A1 n1 c1 o2 A2 n2 c2 (JW w o1 A1 n1 c1 o2 A2 n2 c2) := by
  obtain ⟨a0, a1, b0, b1, h, h1, h2⟩ := JB.start w o1 A1 n1 c1 o2 A2 n2 c2
  exact ⟨a0, a1, b0, b1, h.two, h1, h2⟩
section
variable {w : World} {o1 o2 : Bool} {A1 A2 : Option Addr} {n1 n2 c1 c2 : Nat} {W W' : World}
theorem UB.next (h : UB w o1 A1 n1 c1 o2 A2 n2 c2 W) {B : Nat} (hb : Below B W W') (hB : w.heap.size + 3 ≤ B) : UB w o1 A1 n1 c1 o2 A2 n2 c2 W' :=
  ⟨(hb.cell (by show w.heap.size < _; omega)).trans h.a0, (hb.cell (by show w.heap.size < _; omega)).trans h.a1, (hb.cell (by show w.heap.size + 1 < _; omega)).trans h.b0, (hb.cell (by show w.heap.size + 1 < _; omega)).trans h.b1, h.box.below hb (by omega), h.bel.trans (hb.mono (by omega)), Nat.le_trans h.big hb.size⟩
theorem UB.drew (h : UB w o1 A1 n1 c1 o2 A2 n2 c2 W) : UB w o1 A1 n1 c1 o2 A2 n2 c2 W.drew := h.next ((Below.refl W.heap.size W).drew) h.big
theorem UB.store (h : UB w o1 A1 n1 c1 o2 A2 n2 c2 W) (i : Nat) (u : Value) : UB w o1 A1 n1 c1 o2 A2 n2 c2 (W.setCell ⟨w.heap.size + 1 + 1, i, none⟩ u) :=
  ⟨(World.cell?_setCell_other _ _ _ _ (fun e => by injection e; omega)).trans h.a0, (World.cell?_setCell_other _ _ _ _ (fun e => by injection e; omega)).trans h.a1, (World.cell?_setCell_other _ _ _ _ (fun e => by injection e; omega)).trans h.b0, (World.cell?_setCell_other _ _ _ _ (fun e => by injection e; omega)).trans h.b1, h.box.set u,
   h.bel.setCell (p := ⟨w.heap.size + 1 + 1, i, none⟩) (by show w.heap.size ≤ w.heap.size + 1 + 1; omega) _, by simpa using h.big⟩
theorem UB.fin (h : UB w o1 A1 n1 c1 o2 A2 n2 c2 W) {t : Tr} {v : Value} (ht : InT W W.heap.size t v) (u1 u2 : Value) :
    InT ((W.setCell ⟨w.heap.size + 1 + 1, 0, none⟩ u1).setCell ⟨w.heap.size + 1 + 1, 1, none⟩ u2) ((W.setCell ⟨w.heap.size + 1 + 1, 0, none⟩ u1).setCell ⟨w.heap.size + 1 + 1, 1, none⟩ u2).heap.size t v ∧ Below w.heap.size w ((W.setCell ⟨w.heap.size + 1 + 1, 0, none⟩ u1).setCell ⟨w.heap.size + 1 + 1, 1, none⟩ u2) := store_two h.box ht h.bel (by omega)
end
set_option maxRecDepth 100000 in
set_option maxHeartbeats 6400000 in
theorem union_any : ∀ (x y : Tr) (u v : Value) (w : World), InT w w.heap.size x u → InT w w.heap.size y v → Calls Tryd.prog 74 #[u, v] w (Trees (sumT x y).norm w) := by
  intro x
  induction x with
  | leaf b =>
    rintro y u v w ⟨A1, c1, rfl⟩ hy
    cases b with
    | false =>
      obtain ⟨o2, A2, n2, c2, rfl⟩ := hy.form
      have HS0 := Lib.hid (UB.start w false A1 0 c1 o2 A2 n2 c2)
      have hclx0 := pleaf_any false A1 0 c1 (JW w false A1 0 c1 o2 A2 n2 c2)
      have hcn := fun W (h : Below w.heap.size w W) => norm_any y _ W (hy.up h)
      have HE : Hid (sumT (.leaf false) y = y) := by show _ = _; cases y <;> rfl
      unfold JW at HS0 hclx0
      unfold tv at hclx0 hcn ⊢
      rw [decide_eq_true rfl] at hclx0
      clear hy
      go_enter Tryd.func74, Tryd.ntmps74
      have hcall := hclx0
      go_wp2_with fail
      refine hcall.mono ?_
      rintro e w1 ⟨rfl, hbx⟩
      have HS1 := Lib.hid (HS0.out.next hbx (by simp))
      clear hbx hcall HS0
      obtain ⟨a0, a1, b0, b1, _, _, _⟩ := HS1.out
      have hcall := hcn w1 HS1.out.bel
      go_wp2_with fail
      refine hcall.mono ?_
      rintro e w9 ⟨v9, rfl, ht9, hb9⟩
      have HS9 := Lib.hid (HS1.out.next hb9 HS1.out.big)
      obtain ⟨o5, A5, n5, c5, rfl⟩ := ht9.form
      have HTT := Lib.hid ht9
      clear hb9 ht9 hcall HS1 a0 a1 b0 b1
      obtain ⟨y0, y1, ⟨d0, d1⟩, f0, f1⟩ := HS9.out.box.facts
      have HFIN := Lib.hid (fun u1 u2 => HS9.out.fin (t := _) (v := tv o5 A5 n5 c5) HTT.out u1 u2)
      clear HS9 HTT
      try unfold tv
      go_wp2
      refine bodyPost_ret (v := tv o5 A5 n5 c5) (by simp [results, Tryd.f74, go_sem, tv, d0, d1]) rfl ?_
      exact ⟨_, rfl, by rw [HE.out]; exact (HFIN.out _ _).1, (HFIN.out _ _).2⟩
    | true =>
      cases y with
      | leaf q =>
        obtain ⟨A2, c2, rfl⟩ := hy
        have HS0 := Lib.hid (UB.start w true A1 0 c1 q A2 0 c2)
        have hclx0 := pleaf_any true A1 0 c1 (JW w true A1 0 c1 q A2 0 c2)
        have hclx := fun W => pleaf_any true A1 0 c1 W
        have hcly := fun W => pleaf_any q A2 0 c2 W
        have hcn := fun W (_ : Below w.heap.size w W) => norm_any (.leaf true) (tv true A1 0 c1) W ⟨A1, c1, rfl⟩
        unfold JW at HS0 hclx0
        unfold tv at hclx0 hclx hcly hcn ⊢
        simp only [decide_true] at hclx0 hclx hcly
        cases q with
        | false =>
          go_enter Tryd.func74, Tryd.ntmps74
          have hcall := hclx0
          go_wp2_with fail
          refine hcall.mono ?_
          rintro e w1 ⟨rfl, hbx⟩
          have HS1 := Lib.hid (HS0.out.next hbx (by simp))
          clear hbx hcall HS0
          obtain ⟨a0, a1, b0, b1, _, _, _⟩ := HS1.out
          have hcall := hcly w1
          go_wp2_with fail
          refine hcall.mono ?_
          rintro e w2 ⟨rfl, hbx⟩
          have HS2 := Lib.hid (HS1.out.next hbx HS1.out.big)
          clear hbx hcall HS1
          clear a0 a1 b0 b1
          obtain ⟨a0, a1, b0, b1, _, _, _⟩ := HS2.out
          have hcall := hcn w2 HS2.out.bel
          go_wp2_with fail
          refine hcall.mono ?_
          rintro e w9 ⟨v9, rfl, ht9, hb9⟩
          have HS9 := Lib.hid (HS2.out.next hb9 HS2.out.big)
          obtain ⟨o5, A5, n5, c5, rfl⟩ := ht9.form
          have HTT := Lib.hid ht9
          clear hb9 ht9 hcall HS2 a0 a1 b0 b1
          obtain ⟨y0, y1, ⟨d0, d1⟩, f0, f1⟩ := HS9.out.box.facts
          have HFIN := Lib.hid (fun u1 u2 => HS9.out.fin (t := _) (v := tv o5 A5 n5 c5) HTT.out u1 u2)
          clear HS9 HTT
          try unfold tv
          go_wp2
          refine bodyPost_ret (v := tv o5 A5 n5 c5) (by simp [results, Tryd.f74, go_sem, tv, d0, d1]) rfl ?_
          exact ⟨_, rfl, (HFIN.out _ _).1, (HFIN.out _ _).2⟩
        | true =>
          go_enter Tryd.func74, Tryd.ntmps74
          have hcall := hclx0
          go_wp2_with fail
          refine hcall.mono ?_
          rintro e w1 ⟨rfl, hbx⟩
          have HS1 := Lib.hid (HS0.out.next hbx (by simp))
          clear hbx hcall HS0
          obtain ⟨a0, a1, b0, b1, _, _, _⟩ := HS1.out
          have hcall := hcly w1
          go_wp2_with fail
          refine hcall.mono ?_
          rintro e w2 ⟨rfl, hbx⟩
          have HS2 := Lib.hid (HS1.out.next hbx HS1.out.big)
          clear hbx hcall HS1
          clear a0 a1 b0 b1
          obtain ⟨a0, a1, b0, b1, _, _, _⟩ := HS2.out
          have hcall := hclx w2
          go_wp2_with fail
          refine hcall.mono ?_
          rintro e w3 ⟨rfl, hbx⟩
          have HS3 := Lib.hid (HS2.out.next hbx HS2.out.big)
          clear hbx hcall HS2
          clear a0 a1 b0 b1
          obtain ⟨a0, a1, b0, b1, _, _, _⟩ := HS3.out
          have HTT : Hid (InT w3 w3.heap.size (.leaf true) (tv true none 0 0)) := ⟨none, 0, rfl⟩
          clear a0 a1 b0 b1
          obtain ⟨y0, y1, ⟨d0, d1⟩, f0, f1⟩ := HS3.out.box.facts
          have HFIN := Lib.hid (fun u1 u2 => HS3.out.fin (t := _) (v := tv true none 0 0) HTT.out u1 u2)
          clear HS3 HTT
          try unfold tv
          go_wp2
          refine bodyPost_ret (v := tv true none 0 0) (by simp [results, Tryd.f74, go_sem, tv, d0, d1]) rfl ?_
          exact ⟨_, rfl, (HFIN.out _ _).1, (HFIN.out _ _).2⟩
      | node yl yr =>
        obtain ⟨b', off', c', rfl, _⟩ := hy
        have HS0 := Lib.hid (UB.start w true A1 0 c1 false (some ⟨b', off', none⟩) 2 c')
        have hclx0 := pleaf_any true A1 0 c1 (JW w true A1 0 c1 false (some ⟨b', off', none⟩) 2 c')
        have hclx := fun W => pleaf_any true A1 0 c1 W
        have hcly := fun W => pleaf_any false (some ⟨b', off', none⟩) 2 c' W
        unfold JW at HS0 hclx0
        unfold tv at hclx0 hclx hcly ⊢
        simp only [decide_true, show decide (2 = 0) = false from rfl] at hclx0 hclx hcly
        go_enter Tryd.func74, Tryd.ntmps74
        have hcall := hclx0
        go_wp2_with fail
        refine hcall.mono ?_
        rintro e w1 ⟨rfl, hbx⟩
        have HS1 := Lib.hid (HS0.out.next hbx (by simp))
        clear hbx hcall HS0
        obtain ⟨a0, a1, b0, b1, _, _, _⟩ := HS1.out
        have hcall := hcly w1
        go_wp2_with fail
        refine hcall.mono ?_
        rintro e w2 ⟨rfl, hbx⟩
        have HS2 := Lib.hid (HS1.out.next hbx HS1.out.big)
        clear hbx hcall HS1
        clear a0 a1 b0 b1
        obtain ⟨a0, a1, b0, b1, _, _, _⟩ := HS2.out
        have hcall := hclx w2
        go_wp2_with fail
        refine hcall.mono ?_
        rintro e w3 ⟨rfl, hbx⟩
        have HS3 := Lib.hid (HS2.out.next hbx HS2.out.big)
        clear hbx hcall HS2
        clear a0 a1 b0 b1
        obtain ⟨a0, a1, b0, b1, _, _, _⟩ := HS3.out
        have HTT : Hid (InT w3 w3.heap.size (.leaf true) (tv true none 0 0)) := ⟨none, 0, rfl⟩
        clear a0 a1 b0 b1
        obtain ⟨y0, y1, ⟨d0, d1⟩, f0, f1⟩ := HS3.out.box.facts
        have HFIN := Lib.hid (fun u1 u2 => HS3.out.fin (t := _) (v := tv true none 0 0) HTT.out u1 u2)
        clear HS3 HTT
        try unfold tv
        go_wp2
        refine bodyPost_ret (v := tv true none 0 0) (by simp [results, Tryd.f74, go_sem, tv, d0, d1]) rfl ?_
        exact ⟨_, rfl, (HFIN.out _ _).1, (HFIN.out _ _).2⟩
  | node xl xr ihl ihr =>
    intro y u v w hx hy
    obtain ⟨b, off, c, rfl, hb, ⟨o1, A1, n1, c1, e1, e2, e3⟩, ⟨o2, A2, n2, c2, g1, g2, g3⟩⟩ := id hx
    cases y with
    | leaf q =>
      obtain ⟨A4, c4, rfl⟩ := hy
      have HS0 := Lib.hid (UB.start w false (some ⟨b, off, none⟩) 2 c q A4 0 c4)
      have hclx0 := pleaf_any false (some ⟨b, off, none⟩) 2 c (JW w false (some ⟨b, off, none⟩) 2 c q A4 0 c4)
      have hclx := fun W => pleaf_any false (some ⟨b, off, none⟩) 2 c W
      have hcly := fun W => pleaf_any q A4 0 c4 W
      have hcn := fun W (h : Below w.heap.size w W) => norm_any (.node xl xr) _ W (hx.up h)
      unfold JW at HS0 hclx0
      unfold tv at hclx0 hclx hcly hcn ⊢
      simp only [decide_true, show decide (2 = 0) = false from rfl] at hclx0 hclx hcly
      clear hx e1 e2 e3 g1 g2 g3 ihl ihr
      cases q with
      | false =>
        go_enter Tryd.func74, Tryd.ntmps74
        have hcall := hclx0
        go_wp2_with fail
        refine hcall.mono ?_
        rintro e w1 ⟨rfl, hbx⟩
        have HS1 := Lib.hid (HS0.out.next hbx (by simp))
        clear hbx hcall HS0
        obtain ⟨a0, a1, b0, b1, _, _, _⟩ := HS1.out
        have hcall := hcly w1
        go_wp2_with fail
        refine hcall.mono ?_
        rintro e w2 ⟨rfl, hbx⟩
        have HS2 := Lib.hid (HS1.out.next hbx HS1.out.big)
        clear hbx hcall HS1
        clear a0 a1 b0 b1
        obtain ⟨a0, a1, b0, b1, _, _, _⟩ := HS2.out
        have hcall := hcn w2 HS2.out.bel
        go_wp2_with fail
        refine hcall.mono ?_
        rintro e w9 ⟨v9, rfl, ht9, hb9⟩
        have HS9 := Lib.hid (HS2.out.next hb9 HS2.out.big)
        obtain ⟨o5, A5, n5, c5, rfl⟩ := ht9.form
        have HTT := Lib.hid ht9
        clear hb9 ht9 hcall HS2 a0 a1 b0 b1
        obtain ⟨y0, y1, ⟨d0, d1⟩, f0, f1⟩ := HS9.out.box.facts
        have HFIN := Lib.hid (fun u1 u2 => HS9.out.fin (t := _) (v := tv o5 A5 n5 c5) HTT.out u1 u2)
        clear HS9 HTT
        try unfold tv
        go_wp2
        refine bodyPost_ret (v := tv o5 A5 n5 c5) (by simp [results, Tryd.f74, go_sem, tv, d0, d1]) rfl ?_
        exact ⟨_, rfl, (HFIN.out _ _).1, (HFIN.out _ _).2⟩
      | true =>
        go_enter Tryd.func74, Tryd.ntmps74
        have hcall := hclx0
        go_wp2_with fail
        refine hcall.mono ?_
        rintro e w1 ⟨rfl, hbx⟩
        have HS1 := Lib.hid (HS0.out.next hbx (by simp))
        clear hbx hcall HS0
        obtain ⟨a0, a1, b0, b1, _, _, _⟩ := HS1.out
        have hcall := hcly w1
        go_wp2_with fail
        refine hcall.mono ?_
        rintro e w2 ⟨rfl, hbx⟩
        have HS2 := Lib.hid (HS1.out.next hbx HS1.out.big)
        clear hbx hcall HS1
        clear a0 a1 b0 b1
        obtain ⟨a0, a1, b0, b1, _, _, _⟩ := HS2.out
        have hcall := hclx w2
        go_wp2_with fail
        refine hcall.mono ?_
        rintro e w3 ⟨rfl, hbx⟩
        have HS3 := Lib.hid (HS2.out.next hbx HS2.out.big)
        clear hbx hcall HS2
        clear a0 a1 b0 b1
        obtain ⟨a0, a1, b0, b1, _, _, _⟩ := HS3.out
        have hcall := hcly w3
        go_wp2_with fail
        refine hcall.mono ?_
        rintro e w4 ⟨rfl, hbx⟩
        have HS4 := Lib.hid (HS3.out.next hbx HS3.out.big)
        clear hbx hcall HS3
        clear a0 a1 b0 b1
        obtain ⟨a0, a1, b0, b1, _, _, _⟩ := HS4.out
        have HTT : Hid (InT w4 w4.heap.size (.leaf true) (tv true none 0 0)) := ⟨none, 0, rfl⟩
        clear a0 a1 b0 b1
        obtain ⟨y0, y1, ⟨d0, d1⟩, f0, f1⟩ := HS4.out.box.facts
        have HFIN := Lib.hid (fun u1 u2 => HS4.out.fin (t := _) (v := tv true none 0 0) HTT.out u1 u2)
        clear HS4 HTT
        try unfold tv
        go_wp2
        refine bodyPost_ret (v := tv true none 0 0) (by simp [results, Tryd.f74, go_sem, tv, d0, d1]) rfl ?_
        exact ⟨_, rfl, (HFIN.out _ _).1, (HFIN.out _ _).2⟩
    | node yl yr =>
      obtain ⟨b', off', c', rfl, hb', ⟨o3, A3, n3, c3, e4, e5, e6⟩, ⟨o4, A4, n4, c4, g4, g5, g6⟩⟩ := hy
      have HS0 := Lib.hid (UB.start w false (some ⟨b, off, none⟩) 2 c false (some ⟨b', off', none⟩) 2 c')
      have hclx0 := pleaf_any false (some ⟨b, off, none⟩) 2 c (JW w false (some ⟨b, off, none⟩) 2 c false (some ⟨b', off', none⟩) 2 c')
      have hclx := fun W => pleaf_any false (some ⟨b, off, none⟩) 2 c W
      have hcly := fun W => pleaf_any false (some ⟨b', off', none⟩) 2 c' W
      have HF : Hid (∀ W, UB w false (some ⟨b, off, none⟩) 2 c false (some ⟨b', off', none⟩) 2 c' W → W.cell? ⟨w.heap.size, 1, none⟩ = some (.slice (some ⟨b, off, none⟩) 2 c) ∧ W.cell? ⟨w.heap.size + 1, 1, none⟩ = some (.slice (some ⟨b', off', none⟩) 2 c') ∧
          W.cell? ⟨b, off, none⟩ = some (.bool o1) ∧ W.cell? ⟨b, off + 1, none⟩ = some (.slice A1 n1 c1) ∧ W.cell? ⟨b, off + 2, none⟩ = some (.bool o2) ∧ W.cell? ⟨b, off + 2 + 1, none⟩ = some (.slice A2 n2 c2) ∧
          W.cell? ⟨b', off', none⟩ = some (.bool o3) ∧ W.cell? ⟨b', off' + 1, none⟩ = some (.slice A3 n3 c3) ∧ W.cell? ⟨b', off' + 2, none⟩ = some (.bool o4) ∧ W.cell? ⟨b', off' + 2 + 1, none⟩ = some (.slice A4 n4 c4)) := fun W hW => by
        have low : ∀ i, W.cell? ⟨b, i, none⟩ = w.cell? ⟨b, i, none⟩ := fun i => hW.bel.cell hb
        have low' : ∀ i, W.cell? ⟨b', i, none⟩ = w.cell? ⟨b', i, none⟩ := fun i => hW.bel.cell hb'
        exact ⟨hW.a1, hW.b1, (low _).trans e1, (low _).trans e2, (low _).trans g1, (low _).trans g2, (low' _).trans e4, (low' _).trans e5, (low' _).trans g4, (low' _).trans g5⟩
      have hcx : ∀ W, UB w false (some ⟨b, off, none⟩) 2 c false (some ⟨b', off', none⟩) 2 c' W → Calls Tryd.prog 74 #[.agg #[.bool o1, .slice A1 n1 c1], .agg #[.bool o3, .slice A3 n3 c3]] W (Trees (sumT xl yl).norm W) := fun W hW => ihl yl _ _ W (e3.up hW.bel) (e6.up hW.bel)
      have hcy : ∀ W, UB w false (some ⟨b, off, none⟩) 2 c false (some ⟨b', off', none⟩) 2 c' W → Calls Tryd.prog 74 #[.agg #[.bool o2, .slice A2 n2 c2], .agg #[.bool o4, .slice A4 n4 c4]] W (Trees (sumT xr yr).norm W) := fun W hW => ihr yr _ _ W (g3.up hW.bel) (g6.up hW.bel)
      unfold JW at HS0 hclx0
      unfold tv at hclx0 hclx hcly ⊢
      simp only [show decide (2 = 0) = false from rfl] at hclx0 hclx hcly
      clear hx e1 e2 e3 g1 g2 g3 e4 e5 e6 g4 g5 g6 ihl ihr
      go_enter Tryd.func74, Tryd.ntmps74
      have hcall := hclx0
      go_wp2_with fail
      refine hcall.mono ?_
      rintro e w1 ⟨rfl, hbx⟩
      have HS1 := Lib.hid (HS0.out.next hbx (by simp))
      clear hbx hcall HS0
      obtain ⟨a0, a1, b0, b1, _, _, _⟩ := HS1.out
      have hcall := hcly w1
      go_wp2_with fail
      refine hcall.mono ?_
      rintro e w2 ⟨rfl, hbx⟩
      have HS2 := Lib.hid (HS1.out.next hbx HS1.out.big)
      clear hbx hcall HS1
      clear a0 a1 b0 b1
      obtain ⟨a0, a1, b0, b1, _, _, _⟩ := HS2.out
      have hcall := hclx w2
      go_wp2_with fail
      refine hcall.mono ?_
      rintro e w3 ⟨rfl, hbx⟩
      have HS3 := Lib.hid (HS2.out.next hbx HS2.out.big)
      clear hbx hcall HS2
      clear a0 a1 b0 b1
      obtain ⟨a0, a1, b0, b1, _, _, _⟩ := HS3.out
      have hcall := hcly w3
      go_wp2_with fail
      refine hcall.mono ?_
      rintro e w4 ⟨rfl, hbx⟩
      have HS4 := Lib.hid (HS3.out.next hbx HS3.out.big)
      clear hbx hcall HS3
      clear a0 a1 b0 b1
      have HU := HS4.out
      clear HS4 hclx0 hclx hcly
      go_wp2
      refine wp_region_held_drew (S := fun W => UB w false (some ⟨b, off, none⟩) 2 c false (some ⟨b', off', none⟩) 2 c' W) (by kernel_rfl) HU.drew (fun hS => ?_)
      clear HU
      generalize w4.drew = wd at hS ⊢
      refine wpAnyH_take (i := 0) (v := ?_) rfl (by kernel_rfl) (by kernel_rfl) (by kernel_rfl) (fun _ _ _ h => h) (Yields.yieldsIf (Or.inl ⟨by kernel_rfl, ?_⟩)) hS ?_
      rotate_left
      · first | (intro w; go_simp; done) | (intro w; go_simp; with_reducible rfl)
      refine wpAnyH_take (i := 1) (v := ?_) rfl (by kernel_rfl) (by kernel_rfl) (by kernel_rfl) (fun _ _ _ h => h) (Or.inl ⟨by kernel_rfl, fun W hW => ?_⟩) hS ?_
      rotate_left
      · obtain ⟨f0, f1, f2, f3, f4, f5, f6, f7, f8, f9⟩ := HF.out W hW
        first | (go_simp; done) | (go_simp; with_reducible rfl)
      refine wpAnyH_take (i := 2) (v := ?_) rfl (by kernel_rfl) (by kernel_rfl) (by kernel_rfl) (fun _ _ _ h => h) (Yields.yieldsIf (Or.inl ⟨by kernel_rfl, ?_⟩)) hS ?_
      rotate_left
      · first | (intro w; go_simp; done) | (intro w; go_simp; with_reducible rfl)
      refine wpAnyH_take (i := 3) (v := ?_) rfl (by kernel_rfl) (by kernel_rfl) (by kernel_rfl) (fun _ _ _ h => h) (Or.inl ⟨by kernel_rfl, fun W hW => ?_⟩) hS ?_
      rotate_left
      · obtain ⟨f0, f1, f2, f3, f4, f5, f6, f7, f8, f9⟩ := HF.out W hW
        first | (go_simp; done) | (go_simp; with_reducible rfl)
      refine wpAnyH_take (i := 4) (v := ?_) rfl (by kernel_rfl) (by kernel_rfl) (by kernel_rfl) (fun _ _ _ h => h) (Yields.yieldsIf (Or.inl ⟨by kernel_rfl, ?_⟩)) hS ?_
      rotate_left
      · first | (intro w; go_simp; done) | (intro w; go_simp; with_reducible rfl)
      refine wpAnyH_take (i := 5) (v := ?_) rfl (by kernel_rfl) (by kernel_rfl) (by kernel_rfl) (fun _ _ _ h => h) (Or.inl ⟨by kernel_rfl, fun W hW => ?_⟩) hS ?_
      rotate_left
      · obtain ⟨f0, f1, f2, f3, f4, f5, f6, f7, f8, f9⟩ := HF.out W hW
        first | (go_simp; done) | (go_simp; with_reducible rfl)
      refine wpAnyH_take (i := 6) (v := ?_) rfl (by kernel_rfl) (by kernel_rfl) (by kernel_rfl) (fun _ _ _ h => h) (Yields.yieldsIf (Or.inl ⟨by kernel_rfl, ?_⟩)) hS ?_
      rotate_left
      · first | (intro w; go_simp; done) | (intro w; go_simp; with_reducible rfl)
      refine wpAnyH_take (i := 7) (v := ?_) rfl (by kernel_rfl) (by kernel_rfl) (by kernel_rfl) (fun _ _ _ h => h) (Or.inl ⟨by kernel_rfl, fun W hW => ?_⟩) hS ?_
      rotate_left
      · obtain ⟨f0, f1, f2, f3, f4, f5, f6, f7, f8, f9⟩ := HF.out W hW
        first | (go_simp; done) | (go_simp; with_reducible rfl)
      refine wpAnyH_take (i := 9) (v := ?_) rfl (by kernel_rfl) (by kernel_rfl) (by kernel_rfl) (fun _ _ _ h => h) (Yields.yieldsIf (Or.inl ⟨by kernel_rfl, ?_⟩)) hS ?_
      rotate_left
      · first | (intro w; go_simp; done) | (intro w; go_simp; with_reducible rfl)
      refine wpAnyH_take (i := 10) (v := ?_) rfl (by kernel_rfl) (by kernel_rfl) (by kernel_rfl) (fun _ _ _ h => h) (Or.inl ⟨by kernel_rfl, fun W hW => ?_⟩) hS ?_
      rotate_left
      · obtain ⟨f0, f1, f2, f3, f4, f5, f6, f7, f8, f9⟩ := HF.out W hW
        first | (go_simp; done) | (go_simp; with_reducible rfl)
      refine wpAnyH_take (i := 11) (v := ?_) rfl (by kernel_rfl) (by kernel_rfl) (by kernel_rfl) (fun _ _ _ h => h) (Yields.yieldsIf (Or.inl ⟨by kernel_rfl, ?_⟩)) hS ?_
      rotate_left
      · first | (intro w; go_simp; done) | (intro w; go_simp; with_reducible rfl)
      refine wpAnyH_take (i := 12) (v := ?_) rfl (by kernel_rfl) (by kernel_rfl) (by kernel_rfl) (fun _ _ _ h => h) (Or.inl ⟨by kernel_rfl, fun W hW => ?_⟩) hS ?_
      rotate_left
      · obtain ⟨f0, f1, f2, f3, f4, f5, f6, f7, f8, f9⟩ := HF.out W hW
        first | (go_simp; done) | (go_simp; with_reducible rfl)
      refine wpAnyH_take (i := 13) (v := ?_) rfl (by kernel_rfl) (by kernel_rfl) (by kernel_rfl) (fun _ _ _ h => h) (Yields.yieldsIf (Or.inl ⟨by kernel_rfl, ?_⟩)) hS ?_
      rotate_left
      · first | (intro w; go_simp; done) | (intro w; go_simp; with_reducible rfl)
      refine wpAnyH_take (i := 14) (v := ?_) rfl (by kernel_rfl) (by kernel_rfl) (by kernel_rfl) (fun _ _ _ h => h) (Or.inl ⟨by kernel_rfl, fun W hW => ?_⟩) hS ?_
      rotate_left
      · obtain ⟨f0, f1, f2, f3, f4, f5, f6, f7, f8, f9⟩ := HF.out W hW
        first | (go_simp; done) | (go_simp; with_reducible rfl)
      refine wpAnyH_take (i := 15) (v := ?_) rfl (by kernel_rfl) (by kernel_rfl) (by kernel_rfl) (fun _ _ _ h => h) (Yields.yieldsIf (Or.inl ⟨by kernel_rfl, ?_⟩)) hS ?_
      rotate_left
      · first | (intro w; go_simp; done) | (intro w; go_simp; with_reducible rfl)
      refine wpAnyH_take (i := 16) (v := ?_) rfl (by kernel_rfl) (by kernel_rfl) (by kernel_rfl) (fun _ _ _ h => h) (Or.inl ⟨by kernel_rfl, fun W hW => ?_⟩) hS ?_
      rotate_left
      · obtain ⟨f0, f1, f2, f3, f4, f5, f6, f7, f8, f9⟩ := HF.out W hW
        first | (go_simp; done) | (go_simp; with_reducible rfl)
      refine wpAnyH_ready (rs := [8]) (by kernel_rfl) (by simp) ?_
      refine AllReadyH.cons rfl (fun K hK => ?_) AllReadyH.nil
      go_simp
      go_wp2_with (go_at_call 74; refine (hcx _ hS).mono ?_; rintro e w5 ⟨v1, rfl, ht1, hb5⟩)
      have hS3 := hS.next hb5 hS.big
      have HT1 := Lib.hid ht1
      clear hb5 ht1 hS
      refine hK.out _ _ hS3 (fun hS => ?_)
      clear hK K hS3
      refine wpAnyH_ready (rs := [17]) (by kernel_rfl) (by simp) ?_
      refine AllReadyH.cons rfl (fun K hK => ?_) AllReadyH.nil
      go_simp
      go_wp2_with (go_at_call 74; refine (hcy _ hS).mono ?_; rintro e w6 ⟨v2, rfl, ht2, hb6⟩)
      have hS3 := hS.next hb6 hS.big
      have HT2 := Lib.hid (HT1.out.up hb6)
      have HT3 := Lib.hid ht2
      clear hb6 ht2 hS HT1
      refine hK.out _ _ hS3 (fun hS => ?_)
      clear hK K hS3
      refine wpAnyH_ready (rs := [18]) (by kernel_rfl) (by simp) ?_
      refine AllReadyH.cons rfl (fun K hK => ?_) AllReadyH.nil
      go_simp
      go_wp2_with (go_at_call 84; refine (join_any _ _ _ _ _ HT2.out HT3.out).mono ?_; rintro e w7 ⟨v3, rfl, ht3, hb7⟩)
      have hS3 := hS.next hb7 hS.big
      have HT4 := Lib.hid ht3
      clear hb7 ht3 hS HT2 HT3
      refine hK.out _ _ hS3 (fun hS => ?_)
      clear hK K hS3
      obtain ⟨o5, A5, n5, c5, rfl⟩ := HT4.out.form
      have HS := Lib.hid hS
      obtain ⟨y0, y1, ⟨d0, d1⟩, f0, f1⟩ := hS.box.facts
      have HFIN := Lib.hid (fun u1 u2 => hS.fin HT4.out u1 u2)
      clear hS HT4 hcx hcy HF
      unfold tv
      refine wpAnyH_ready (rs := [19]) (by kernel_rfl) (by simp) ?_
      refine AllReadyH.cons rfl (fun K hK => ?_) AllReadyH.nil
      go_simp
      go_wp2
      refine hK.out _ _ ((HS.out.store 0 _).store 1 _) (fun _ => ?_)
      clear hK K HS
      refine wpAnyH_done (by kernel_rfl) ?_ _
      go_wp2
      refine bodyPost_ret (v := tv o5 A5 n5 c5) (by simp [results, Tryd.f74, go_sem, tv, d0, d1]) rfl ?_
      exact ⟨_, rfl, (HFIN.out _ _).1, (HFIN.out _ _).2⟩
end Go.Proofs.YtoaglkjpjolacaaDoor.I
namespace Go.Proofs.YtoaglkjpjolacaaDoor.I
open Go.RowKit
theorem mk2_nodes (a b : Tr) : (a.mk2 b).nodes ≤ a.nodes + b.nodes + 1 := by
  cases a with
  | leaf x =>
    cases b with
    | leaf y => simp only [Tr.mk2]; split <;> simp [Tr.nodes]
    | node _ _ => simp [Tr.mk2, Tr.nodes]
  | node _ _ => cases b <;> simp [Tr.mk2, Tr.nodes]
theorem norm_nodes : ∀ t : Tr, t.norm.nodes ≤ t.nodes
  | .leaf _ => Nat.le_refl _
  | .node x y => by
    have := norm_nodes x
    have := norm_nodes y
    have := mk2_nodes x.norm y.norm
    simp only [Tr.norm, Tr.nodes]; omega
theorem mk2_depth (a b : Tr) : (a.mk2 b).depth ≤ max a.depth b.depth + 1 := by
  cases a with
  | leaf x =>
    cases b with
    | leaf y => simp only [Tr.mk2]; split <;> simp [Tr.depth]
    | node _ _ => simp [Tr.mk2, Tr.depth]
  | node _ _ => cases b <;> simp [Tr.mk2, Tr.depth]
theorem norm_depth : ∀ t : Tr, t.norm.depth ≤ t.depth
  | .leaf _ => Nat.le_refl _
  | .node x y => by
    have := norm_depth x
    have := norm_depth y
    have := mk2_depth x.norm y.norm
    simp only [Tr.norm, Tr.depth]; omega
end Go.Proofs.YtoaglkjpjolacaaDoor.I
namespace Go.Proofs.YtoaglkjpjolacaaDoor.I
open Go.RowKit
def fit (t : Tr) : Option Tr := if t.depth ≤ 32 ∧ t.nodes ≤ 2047 then some t else none
theorem fit_some (t : Tr) : (fit t).isSome = (decide (t.depth ≤ 32) && decide (t.nodes ≤ 2047)) := by
  unfold fit
  by_cases h1 : t.depth ≤ 32 <;> by_cases h2 : t.nodes ≤ 2047 <;> simp [h1, h2]
theorem fit_of {t : Tr} (h1 : t.depth ≤ 32) (h2 : t.nodes ≤ 2047) : fit t = some t := if_pos ⟨h1, h2⟩
theorem fit_norm {t : Tr} (h : fit t = some t) : fit t.norm = some t.norm := by
  unfold fit at h
  split at h
  · rename_i h1
    exact fit_of (Nat.le_trans (norm_depth t) h1.1) (Nat.le_trans (norm_nodes t) h1.2)
  · cases h
theorem fit_eq {t s : Tr} (h : fit t = some s) : s = t ∧ t.depth ≤ 32 ∧ t.nodes ≤ 2047 := by
  unfold fit at h
  split at h
  · rename_i h1; injection h with h; exact ⟨h.symm, h1⟩
  · cases h
/-- A tree that is handed in, anywhere in memory: the right tree T, or none. -/
def Arg (w : World) (T : Option Tr) (v : Value) : Prop := ∃ o ks A c, v = tv o A ks.len c ∧ Kd w w.heap.size ks A ∧ treeOf o ks = T
theorem Arg.up {w w' : World} {T : Option Tr} {v : Value} (h : Arg w T v) (hb : Below w.heap.size w w') : Arg w' T v := by
  obtain ⟨o, ks, A, c, e, hk, ht⟩ := h
  exact ⟨o, ks, A, c, e, hk.up hb, ht⟩
theorem Arg.form {w : World} {T : Option Tr} {v : Value} (h : Arg w T v) : ∃ o A n c, v = tv o A n c := by
  obtain ⟨o, ks, A, c, e, hk, ht⟩ := h
  exact ⟨o, A, ks.len, c, e⟩
theorem Arg.inT {w : World} {t : Tr} {v : Value} (h : Arg w (some t) v) : InT w w.heap.size t v ∧ t.depth ≤ 32 ∧ t.nodes ≤ 2047 := by
  obtain ⟨o, ks, A, c, rfl, hk, ht⟩ := h
  exact in_treeOf ht hk
theorem Arg.fit {w : World} {t : Tr} {v : Value} (h : Arg w (some t) v) : fit t = some t := fit_of h.inT.2.1 h.inT.2.2
theorem arg_of {w : World} {t : Tr} {v : Value} (h : InT w w.heap.size t v) : Arg w (fit t) v := by
  obtain ⟨o, ks, A, c, rfl, hk, ht⟩ := unT h
  refine ⟨o, ks, A, c, rfl, hk, ?_⟩
  unfold treeOf I.fit
  rw [ht]
  simp only [Option.filter]
  by_cases h1 : t.depth ≤ 32 <;> by_cases h2 : t.nodes ≤ 2047 <;> simp [h1, h2]
theorem right_arg {w : World} {T : Option Tr} {v : Value} (h : Arg w T v) : Calls Tryd.prog 35 #[v] w fun e w' => e = .returned (.bool T.isSome) ∧ Below w.heap.size w w' := by
  obtain ⟨o, ks, A, c, rfl, hk, rfl⟩ := h
  exact right_any o ks A c w hk
theorem norm_arg {w : World} {T : Option Tr} {v : Value} (h : Arg w T v) : Calls Tryd.prog 30 #[v] w (Ans (normR T) w) := by
  obtain ⟨o, ks, A, c, rfl, hk, rfl⟩ := h
  exact pnorm_any o ks A c w hk
/-- Variables of two cells: what lies in those of bs, where those of rs are; all of the call's own. -/
structure XS (w : World) (bs : List (Nat × Value × Value)) (rs : List Nat) (W : World) : Prop where
  at0 : ∀ b ∈ bs, W.cell? ⟨b.1, 0, none⟩ = some b.2.1 ∧ W.cell? ⟨b.1, 1, none⟩ = some b.2.2 ∧ b.1 < W.heap.size
  box : ∀ r ∈ rs, Box2 W r ∧ r < W.heap.size ∧ w.heap.size ≤ r
  bel : Below w.heap.size w W
theorem XS.next {w W W' : World} {bs : List (Nat × Value × Value)} {rs : List Nat} (h : XS w bs rs W) (hb : Below W.heap.size W W') : XS w bs rs W' :=
  ⟨fun b hm => ⟨(hb.cell (h.at0 b hm).2.2).trans (h.at0 b hm).1, (hb.cell (h.at0 b hm).2.2).trans (h.at0 b hm).2.1, Nat.lt_of_lt_of_le (h.at0 b hm).2.2 hb.size⟩,
   fun r hm => ⟨(h.box r hm).1.below hb (h.box r hm).2.1, Nat.lt_of_lt_of_le (h.box r hm).2.1 hb.size, (h.box r hm).2.2⟩, h.bel.trans (hb.mono h.bel.size)⟩
theorem XS.drew {w W : World} {bs : List (Nat × Value × Value)} {rs : List Nat} (h : XS w bs rs W) : XS w bs rs W.drew := h.next ((Below.refl W.heap.size W).drew)
theorem XS.begin (w : World) : XS w [] [] w := ⟨by simp, by simp, Below.refl _ _⟩
/-- One more, with its values. -/
theorem XS.boxed {w W : World} {bs : List (Nat × Value × Value)} {rs : List Nat} (h : XS w bs rs W) (u v : Value) : XS w (bs ++ [(W.heap.size, u, v)]) rs (W.alloc (.cells #[u, v] 24)) := by
  have h1 := h.next ((Below.refl W.heap.size W).alloc (Nat.le_refl _) (.cells #[u, v] 24))
  refine ⟨fun b hm => ?_, h1.box, h1.bel⟩
  rcases List.mem_append.1 hm with hm | hm
  · exact h1.at0 b hm
  · simp only [List.mem_singleton] at hm
    subst hm
    exact ⟨by simp [go_sem], by simp [go_sem], by simp⟩
/-- One more, to be written. -/
theorem XS.fresh {w W : World} {bs : List (Nat × Value × Value)} {rs : List Nat} (h : XS w bs rs W) (u v : Value) : XS w bs (rs ++ [W.heap.size]) (W.alloc (.cells #[u, v] 24)) := by
  have h1 := h.next ((Below.refl W.heap.size W).alloc (Nat.le_refl _) (.cells #[u, v] 24))
  refine ⟨h1.at0, fun r hm => ?_, h1.bel⟩
  rcases List.mem_append.1 hm with hm | hm
  · exact h1.box r hm
  · simp only [List.mem_singleton] at hm
    subst hm
    exact ⟨⟨_, heap_alloc_new W _, rfl⟩, by simp, h.bel.size⟩
theorem XS.store {w W : World} {bs : List (Nat × Value × Value)} {rs : List Nat} (h : XS w bs rs W) (g i : Nat) (u : Value) (hg : g ∈ rs) (hd : ∀ b ∈ bs, b.1 ≠ g) : XS w bs rs (W.setCell ⟨g, i, none⟩ u) := by
  refine ⟨fun b hm => ⟨(World.cell?_setCell_other _ _ _ _ (fun e => by injection e with e; exact hd b hm e.symm)).trans (h.at0 b hm).1, (World.cell?_setCell_other _ _ _ _ (fun e => by injection e with e; exact hd b hm e.symm)).trans (h.at0 b hm).2.1, by rw [size_set]; exact (h.at0 b hm).2.2⟩, fun r hm => ⟨?_, by rw [size_set]; exact (h.box r hm).2.1, (h.box r hm).2.2⟩, h.bel.setCell (p := ⟨g, i, none⟩) (h.box g hg).2.2 _⟩
  by_cases e : r = g
  · subst e; exact (h.box r hm).1.set u
  · exact (h.box r hm).1.far e u
/-- The same, with the values that were written. -/
theorem XS.put {w W : World} {bs : List (Nat × Value × Value)} {rs : List Nat} (h : XS w bs rs W) (g : Nat) (u v : Value) (hg : g ∈ rs) (hd : ∀ b ∈ bs, b.1 ≠ g) : XS w (bs ++ [(g, u, v)]) rs ((W.setCell ⟨g, 0, none⟩ u).setCell ⟨g, 1, none⟩ v) := by
  have h1 := (h.store g 0 u hg hd).store g 1 v hg hd
  refine ⟨fun b hm => ?_, h1.box, h1.bel⟩
  rcases List.mem_append.1 hm with hm | hm
  · exact h1.at0 b hm
  · simp only [List.mem_singleton] at hm
    subst hm
    obtain ⟨y0, y1, ⟨d0, d1⟩, f0, f1⟩ := (h.box g hg).1.facts
    refine ⟨?_, ?_, by rw [size_set, size_set]; exact (h.box g hg).2.1⟩
    · simp [go_sem, d0]
    · simp [go_sem, d1]
theorem XS.tree {w W : World} {bs : List (Nat × Value × Value)} {rs : List Nat} (h : XS w bs rs W) {t : Tr} {x : Value} (ht : InT W W.heap.size t x) (g i : Nat) (u : Value) (hg : g ∈ rs) : InT (W.setCell ⟨g, i, none⟩ u) (W.setCell ⟨g, i, none⟩ u).heap.size t x := by
  rw [size_set]; exact InT.set2 (h.box g hg).1 ht
theorem XS.facts {w W : World} {bs : List (Nat × Value × Value)} {rs : List Nat} (h : XS w bs rs W) (g : Nat) (hg : g ∈ rs) : ∃ u0 u1, (W.cell? ⟨g, 0, none⟩ = some u0 ∧ W.cell? ⟨g, 1, none⟩ = some u1) ∧ W.frozen? ⟨g, 0, none⟩ = false ∧ W.frozen? ⟨g, 1, none⟩ = false := (h.box g hg).1.facts
/-- One variable is written at the end. -/
theorem XS.fin {w W : World} {bs : List (Nat × Value × Value)} {rs : List Nat} (h : XS w bs rs W) {t : Tr} {x : Value} (ht : InT W W.heap.size t x) (g : Nat) (hg : g ∈ rs) (u1 u2 : Value) :
    InT ((W.setCell ⟨g, 0, none⟩ u1).setCell ⟨g, 1, none⟩ u2) ((W.setCell ⟨g, 0, none⟩ u1).setCell ⟨g, 1, none⟩ u2).heap.size t x ∧ Below w.heap.size w ((W.setCell ⟨g, 0, none⟩ u1).setCell ⟨g, 1, none⟩ u2) := store_two (h.box g hg).1 ht h.bel (h.box g hg).2.2
end Go.Proofs.YtoaglkjpjolacaaDoor.I
namespace Go.Proofs.YtoaglkjpjolacaaDoor.I
open Go.RowKit
/-- What Sum answers. -/
def sumR (S T : Option Tr) : Tr × Int := match S, T with
  | some s, some t => if bothT s t = true then (.leaf false, 42) else if (fit (sumT s t).norm).isSome = true then ((sumT s t).norm, 0) else (.leaf false, 2)
  | _, _ => (.leaf false, 2)

set_option maxRecDepth 100000 in
set_option maxHeartbeats 1600000 in
theorem sum_arg {w : World} {S T : Option Tr} {u v : Value} (hu : Arg w S u) (hv : Arg w T v) : Calls Tryd.prog 43 #[u, v] w (Ans (sumR S T) w) := by
  obtain ⟨o1, A1, n1, c1, rfl⟩ := hu.form
  obtain ⟨o2, A2, n2, c2, rfl⟩ := hv.form
  have HX := Lib.hid ((((XS.begin w).boxed (.bool o1) (.slice A1 n1 c1)).boxed (.bool o2) (.slice A2 n2 c2)).fresh (.bool false) (.slice none 0 0))
  simp only [List.nil_append, List.cons_append, World.size_alloc] at HX
  have HU := Lib.hid hu
  have HV := Lib.hid hv
  clear hu hv
  have hr1 := fun W (h : Below w.heap.size w W) => right_arg (HU.out.up h)
  have hr2 := fun W (h : Below w.heap.size w W) => right_arg (HV.out.up h)
  have HNO : Hid (∀ W z, XS w [(w.heap.size, .bool o1, .slice A1 n1 c1), (w.heap.size + 1, .bool o2, .slice A2 n2 c2)] [w.heap.size + 1 + 1] W → Ans (.leaf false, z) w (.returned (.tuple #[tv false none 0 0, .int .i64 z])) ((W.setCell ⟨w.heap.size + 1 + 1, 0, none⟩ (.bool false)).setCell ⟨w.heap.size + 1 + 1, 1, none⟩ (.slice none 0 0))) :=
    fun W z h => ⟨_, rfl, (h.fin (zero_in _ _) _ (by simp) _ _).1, (h.fin (zero_in _ _) _ (by simp) _ _).2⟩
  unfold tv at hr1 hr2 ⊢
  go_enter Tryd.func43, Tryd.ntmps43
  go_wp2_with fail
  refine (hr1 _ HX.out.bel).mono ?_
  rintro e w1 ⟨rfl, hb1⟩
  have HX1 := Lib.hid (HX.out.next hb1)
  clear hb1 hr1 HX
  have f := HX1.out.at0
  simp only [List.mem_cons, List.not_mem_nil, or_false, forall_eq_or_imp, forall_eq] at f
  obtain ⟨⟨a0, a1, l1⟩, b0, b1, l2⟩ := f
  obtain ⟨y0, y1, ⟨d0, d1⟩, f0, f1⟩ := HX1.out.facts _ (List.mem_singleton.2 rfl)
  cases S with
  | none =>
    simp only [Option.isSome_none]
    have H := Lib.hid (HNO.out w1 2 HX1.out)
    clear HX1 HNO l1 l2
    go_wp2
    refine bodyPost_ret (v := .tuple #[tv false none 0 0, .int .i64 2]) (by simp [results, Tryd.f43, go_sem, tv, d0, d1]) rfl ?_
    exact H.out
  | some s =>
    simp only [Option.isSome_some]
    clear d0 d1 f0 f1
    go_wp2_with fail
    refine (hr2 _ HX1.out.bel).mono ?_
    rintro e w2 ⟨rfl, hb2⟩
    have HX2 := Lib.hid (HX1.out.next hb2)
    clear hb2 hr2 HX1 a0 a1 l1 b0 b1 l2
    have f := HX2.out.at0
    simp only [List.mem_cons, List.not_mem_nil, or_false, forall_eq_or_imp, forall_eq] at f
    obtain ⟨⟨a0, a1, l1⟩, b0, b1, l2⟩ := f
    cases T with
    | none =>
      simp only [Option.isSome_none]
      obtain ⟨y0, y1, ⟨d0, d1⟩, f0, f1⟩ := HX2.out.facts _ (List.mem_singleton.2 rfl)
      have H := Lib.hid (HNO.out w2 2 HX2.out)
      clear HX2 HNO l1 l2
      go_wp2
      refine bodyPost_ret (v := .tuple #[tv false none 0 0, .int .i64 2]) (by simp [results, Tryd.f43, go_sem, tv, d0, d1]) rfl ?_
      exact H.out
    | some t =>
      simp only [Option.isSome_some]
      have hc := meet_tr s t _ _ w2 (HU.out.up HX2.out.bel).inT.1 (HV.out.up HX2.out.bel).inT.1
      unfold tv at hc
      go_wp2_with fail
      refine hc.mono ?_
      rintro e w3 ⟨rfl, hb3⟩
      have HX3 := Lib.hid (HX2.out.next hb3)
      clear hb3 hc HX2 a0 a1 l1 b0 b1 l2
      have f := HX3.out.at0
      simp only [List.mem_cons, List.not_mem_nil, or_false, forall_eq_or_imp, forall_eq] at f
      obtain ⟨⟨a0, a1, l1⟩, b0, b1, l2⟩ := f
      by_cases hbo : bothT s t = true
      · rw [hbo]
        obtain ⟨y0, y1, ⟨d0, d1⟩, f0, f1⟩ := HX3.out.facts _ (List.mem_singleton.2 rfl)
        have H := Lib.hid (HNO.out w3 42 HX3.out)
        have HE : Hid (sumR (some s) (some t) = (.leaf false, 42)) := if_pos hbo
        clear HX3 HNO l1 l2 hbo
        go_wp2
        refine bodyPost_ret (v := .tuple #[tv false none 0 0, .int .i64 42]) (by simp [results, Tryd.f43, go_sem, tv, d0, d1]) rfl ?_
        rw [HE.out]
        exact H.out
      · have hbf : bothT s t = false := by simpa using hbo
        rw [hbf]
        have hc := union_any s t _ _ w3 (HU.out.up HX3.out.bel).inT.1 (HV.out.up HX3.out.bel).inT.1
        have HE : Hid (sumR (some s) (some t) = if (fit (sumT s t).norm).isSome = true then ((sumT s t).norm, 0) else (.leaf false, 2)) := if_neg hbo
        obtain ⟨Z, hZ⟩ : ∃ Z, (sumT s t).norm = Z := ⟨_, rfl⟩
        rw [hZ] at hc HE
        unfold tv at hc
        clear hbo hbf hZ
        go_wp2_with fail
        refine hc.mono ?_
        rintro e w4 ⟨v4, rfl, ht4, hb4⟩
        obtain ⟨o5, A5, n5, c5, rfl⟩ := ht4.form
        have HX4 := Lib.hid (HX3.out.next hb4)
        have HX5 := Lib.hid (HX4.out.boxed (.bool o5) (.slice A5 n5 c5))
        have ht5 := ht4.up ((Below.refl _ w4).alloc (Nat.le_refl _) (.cells #[.bool o5, .slice A5 n5 c5] 24))
        have HT5 := Lib.hid ht5
        have hr := right_arg (arg_of ht5)
        clear hb4 hc HX3 a0 a1 l1 b0 b1 l2 ht4 HX4 ht5
        unfold tv at hr ⊢
        go_wp2_with fail
        refine hr.mono ?_
        rintro e w6 ⟨rfl, hb6⟩
        have HX6 := Lib.hid (HX5.out.next hb6)
        have HT6 := Lib.hid (HT5.out.up hb6)
        clear hb6 hr HX5 HT5
        have f := HX6.out.at0
        simp only [List.cons_append, List.nil_append, List.mem_cons, List.not_mem_nil, or_false, forall_eq_or_imp, forall_eq] at f
        obtain ⟨⟨a0, a1, l1⟩, ⟨b0, b1, l2⟩, e0, e1, l3⟩ := f
        obtain ⟨y0, y1, ⟨d0, d1⟩, f0, f1⟩ := HX6.out.facts _ (List.mem_singleton.2 rfl)
        cases hfz : (fit Z).isSome with
        | false =>
          have HF : Hid (Ans (.leaf false, 2) w (.returned (.tuple #[tv false none 0 0, .int .i64 2])) ((w6.setCell ⟨w.heap.size + 1 + 1, 0, none⟩ (.bool false)).setCell ⟨w.heap.size + 1 + 1, 1, none⟩ (.slice none 0 0))) :=
            ⟨_, rfl, (HX6.out.fin (zero_in _ _) _ (by simp) _ _).1, (HX6.out.fin (zero_in _ _) _ (by simp) _ _).2⟩
          rw [hfz] at HE
          clear HX6 HT6 l1 l2 l3 a0 a1 b0 b1 e0 e1 hfz
          go_wp2
          refine bodyPost_ret (v := .tuple #[tv false none 0 0, .int .i64 2]) (by simp [results, Tryd.f43, go_sem, tv, d0, d1]) rfl ?_
          rw [HE.out, if_neg (by simp)]
          exact HF.out
        | true =>
          have HF : Hid (Ans (Z, 0) w (.returned (.tuple #[tv o5 A5 n5 c5, .int .i64 0])) ((w6.setCell ⟨w.heap.size + 1 + 1, 0, none⟩ (.bool o5)).setCell ⟨w.heap.size + 1 + 1, 1, none⟩ (.slice A5 n5 c5))) :=
            ⟨_, rfl, (HX6.out.fin HT6.out _ (by simp) _ _).1, (HX6.out.fin HT6.out _ (by simp) _ _).2⟩
          rw [hfz] at HE
          clear HX6 HT6 l1 l2 l3 a0 a1 b0 b1 hfz
          go_wp2
          refine bodyPost_ret (v := .tuple #[tv o5 A5 n5 c5, .int .i64 0]) (by simp [results, Tryd.f43, go_sem, tv, d0, d1]) rfl ?_
          rw [HE.out, if_pos trivial]
          exact HF.out

/-- What Split answers. -/
def splitR (T : Option Tr) : (Tr × Tr) × Int := match T with
  | some t => if (fit (splitT t.norm).1).isSome = true ∧ (fit (splitT t.norm).2).isSome = true then (splitT t.norm, 0) else ((.leaf false, .leaf false), 41)
  | none => ((.leaf false, .leaf false), 2)
/-- Two trees and an error's number. -/
def Ans2 (r : (Tr × Tr) × Int) (w : World) (e : Ending) (w' : World) : Prop := ∃ v1 v2, e = .returned (.tuple #[v1, v2, .int .i64 r.2]) ∧ InT w' w'.heap.size r.1.1 v1 ∧ InT w' w'.heap.size r.1.2 v2 ∧ Below w.heap.size w w'
theorem XS.fin2 {w W : World} {bs : List (Nat × Value × Value)} {rs : List Nat} (h : XS w bs rs W) {s t : Tr} {x y : Value} (hs : InT W W.heap.size s x) (ht : InT W W.heap.size t y) (g g' : Nat) (hg : g ∈ rs) (hg' : g' ∈ rs) (z u1 u2 u3 u4 : Value) (k : Int) (hd : ∀ b ∈ bs, b.1 ≠ g) (hd' : ∀ b ∈ bs, b.1 ≠ g') (hz : z = .int .i64 k) :
    Ans2 ((s, t), k) w (.returned (.tuple #[x, y, z])) ((((W.setCell ⟨g, 0, none⟩ u1).setCell ⟨g, 1, none⟩ u2).setCell ⟨g', 0, none⟩ u3).setCell ⟨g', 1, none⟩ u4) := by
  subst hz
  have h1 := (h.store g 0 u1 hg hd).store g 1 u2 hg hd
  have h2 := h1.store g' 0 u3 hg' hd'
  have k1 := fun {q : Tr} {z : Value} (hq : InT W W.heap.size q z) => h2.tree (h1.tree ((h.store g 0 u1 hg hd).tree (h.tree hq g 0 u1 hg) g 1 u2 hg) g' 0 u3 hg') g' 1 u4 hg'
  exact ⟨_, _, rfl, k1 hs, k1 ht, (h2.store g' 1 u4 hg' hd').bel⟩

set_option maxRecDepth 100000 in
set_option maxHeartbeats 1600000 in
theorem split_arg {w : World} {T : Option Tr} {v : Value} (hv : Arg w T v) : Calls Tryd.prog 23 #[v] w (Ans2 (splitR T) w) := by
  obtain ⟨o, A, n, c, rfl⟩ := hv.form
  have HX := Lib.hid ((((XS.begin w).boxed (.bool o) (.slice A n c)).fresh (.bool false) (.slice none 0 0)).fresh (.bool false) (.slice none 0 0))
  simp only [List.nil_append, List.cons_append, World.size_alloc] at HX
  have HV := Lib.hid hv
  clear hv
  have hr := right_arg (HV.out.up HX.out.bel)
  unfold tv at hr ⊢
  go_enter Tryd.func23, Tryd.ntmps23
  go_wp2_with fail
  refine hr.mono ?_
  rintro e w1 ⟨rfl, hb1⟩
  have HX1 := Lib.hid (HX.out.next hb1)
  clear hb1 hr HX
  have f := HX1.out.at0
  simp only [List.mem_cons, List.not_mem_nil, or_false, forall_eq] at f
  obtain ⟨a0, a1, l1⟩ := f
  cases T with
  | none =>
    simp only [Option.isSome_none]
    obtain ⟨y0, y1, ⟨d0, d1⟩, f0, f1⟩ := HX1.out.facts (w.heap.size + 1) (by simp)
    obtain ⟨y2, y3, ⟨d2, d3⟩, f2, f3⟩ := HX1.out.facts (w.heap.size + 1 + 1) (by simp)
    have H := Lib.hid (HX1.out.fin2 (zero_in _ _) (zero_in _ _) (w.heap.size + 1) (w.heap.size + 1 + 1) (by simp) (by simp) (.int .i64 2) (.bool false) (.slice none 0 0) (.bool false) (.slice none 0 0) 2 (by simp) (by simp; omega) rfl)
    clear HX1 l1 a0 a1
    go_wp2
    refine bodyPost_ret (v := .tuple #[tv false none 0 0, tv false none 0 0, .int .i64 2]) (by simp [results, Tryd.f23, go_sem, tv, d0, d1, d2, d3]) rfl ?_
    exact H.out
  | some t =>
    simp only [Option.isSome_some]
    have hc := norm_any t _ w1 (HV.out.up HX1.out.bel).inT.1
    unfold tv at hc
    go_wp2_with fail
    refine hc.mono ?_
    rintro e w2 ⟨v2, rfl, ht2, hb2⟩
    have HX2 := Lib.hid (HX1.out.next hb2)
    have hc2 := split_any t.norm v2 w2 ht2
    clear hb2 hc HX1 a0 a1 l1 ht2
    go_wp2_with fail
    refine hc2.mono ?_
    rintro e w3 ⟨x, y, rfl, hx3, hy3, hb3⟩
    obtain ⟨o1, A1, n1, c1, rfl⟩ := hx3.form
    obtain ⟨o2, A2, n2, c2, rfl⟩ := hy3.form
    have hx4 := HX2.out.next hb3
    have HX5 := Lib.hid ((hx4.boxed (.bool o1) (.slice A1 n1 c1)).boxed (.bool o2) (.slice A2 n2 c2))
    have hb5 : Below w3.heap.size w3 ((w3.alloc (.cells #[.bool o1, .slice A1 n1 c1] 24)).alloc (.cells #[.bool o2, .slice A2 n2 c2] 24)) := ((Below.refl _ w3).alloc (Nat.le_refl _) _).alloc (by simp) _
    have HT1 := Lib.hid (hx3.up hb5)
    have HT2 := Lib.hid (hy3.up hb5)
    simp only [List.nil_append, List.cons_append, World.size_alloc] at HX5
    have hr := right_arg (arg_of HT1.out)
    have hsz : w.heap.size + 3 ≤ w3.heap.size := by have := (hx4.box (w.heap.size + 1 + 1) (by simp)).2.1; omega
    have HSZ := Lib.hid hsz
    clear hb3 hc2 HX2 hx3 hy3 hx4 hb5 hsz
    unfold tv at hr ⊢
    go_wp2_with fail
    refine hr.mono ?_
    rintro e w6 ⟨rfl, hb6⟩
    have HX6 := Lib.hid (HX5.out.next hb6)
    have HU1 := Lib.hid (HT1.out.up hb6)
    have HU2 := Lib.hid (HT2.out.up hb6)
    clear hb6 hr HX5 HT1 HT2
    have f := HX6.out.at0
    simp only [List.mem_cons, List.not_mem_nil, or_false, forall_eq_or_imp, forall_eq] at f
    obtain ⟨⟨a0, a1, l1⟩, ⟨b0, b1, l2⟩, e0, e1, l3⟩ := f
    have HE : Hid (splitR (some t) = if (fit (splitT t.norm).1).isSome = true ∧ (fit (splitT t.norm).2).isSome = true then (splitT t.norm, 0) else ((.leaf false, .leaf false), 41)) := rfl
    obtain ⟨X, hX⟩ : ∃ X, splitT t.norm = X := ⟨_, rfl⟩
    rw [hX] at HE HU1 HU2 ⊢
    clear hX
    cases hf1 : (fit X.1).isSome with
    | false =>
      obtain ⟨y0, y1, ⟨d0, d1⟩, f0, f1⟩ := HX6.out.facts (w.heap.size + 1) (by simp)
      obtain ⟨y2, y3, ⟨d2, d3⟩, f2, f3⟩ := HX6.out.facts (w.heap.size + 1 + 1) (by simp)
      have H := Lib.hid (HX6.out.fin2 (zero_in _ _) (zero_in _ _) (w.heap.size + 1) (w.heap.size + 1 + 1) (by simp) (by simp) (.int .i64 41) (.bool false) (.slice none 0 0) (.bool false) (.slice none 0 0) 41 (by have := HSZ.out; simp; omega) (by have := HSZ.out; simp; omega) rfl)
      rw [hf1] at HE
      clear HX6 HU1 HU2 l1 l2 l3 a0 a1 b0 b1 e0 e1 hf1 HSZ
      go_wp2
      refine bodyPost_ret (v := .tuple #[tv false none 0 0, tv false none 0 0, .int .i64 41]) (by simp [results, Tryd.f23, go_sem, tv, d0, d1, d2, d3]) rfl ?_
      rw [HE.out, if_neg (by simp)]
      exact H.out
    | true =>
      have hr := right_arg (arg_of HU2.out)
      unfold tv at hr
      go_wp2_with fail
      refine hr.mono ?_
      rintro e w7 ⟨rfl, hb7⟩
      have HX7 := Lib.hid (HX6.out.next hb7)
      have HV1 := Lib.hid (HU1.out.up hb7)
      have HV2 := Lib.hid (HU2.out.up hb7)
      clear hb7 hr HX6 HU1 HU2 a0 a1 l1 b0 b1 l2 e0 e1 l3
      have f := HX7.out.at0
      simp only [List.mem_cons, List.not_mem_nil, or_false, forall_eq_or_imp, forall_eq] at f
      obtain ⟨⟨a0, a1, l1⟩, ⟨b0, b1, l2⟩, e0, e1, l3⟩ := f
      rw [hf1] at HE
      clear hf1
      cases hf2 : (fit X.2).isSome with
      | false =>
        obtain ⟨y0, y1, ⟨d0, d1⟩, f0, f1⟩ := HX7.out.facts (w.heap.size + 1) (by simp)
        obtain ⟨y2, y3, ⟨d2, d3⟩, f2, f3⟩ := HX7.out.facts (w.heap.size + 1 + 1) (by simp)
        have H := Lib.hid (HX7.out.fin2 (zero_in _ _) (zero_in _ _) (w.heap.size + 1) (w.heap.size + 1 + 1) (by simp) (by simp) (.int .i64 41) (.bool false) (.slice none 0 0) (.bool false) (.slice none 0 0) 41 (by have := HSZ.out; simp; omega) (by have := HSZ.out; simp; omega) rfl)
        rw [hf2] at HE
        clear HX7 HV1 HV2 l1 l2 l3 a0 a1 b0 b1 e0 e1 hf2 HSZ
        go_wp2
        refine bodyPost_ret (v := .tuple #[tv false none 0 0, tv false none 0 0, .int .i64 41]) (by simp [results, Tryd.f23, go_sem, tv, d0, d1, d2, d3]) rfl ?_
        rw [HE.out, if_neg (by simp)]
        exact H.out
      | true =>
        rw [hf2] at HE
        clear hf2
        have hXD := HX7.out.drew
        have HW1 := Lib.hid (HV1.out.up ((Below.refl w7.heap.size w7).drew))
        have HW2 := Lib.hid (HV2.out.up ((Below.refl w7.heap.size w7).drew))
        clear a0 a1 l1 b0 b1 l2 e0 e1 l3 HX7 HV1 HV2
        go_wp2
        refine wp_region_held_drew (S := fun W => XS w [(w.heap.size, .bool o, .slice A n c), (w3.heap.size, .bool o1, .slice A1 n1 c1), (w3.heap.size + 1, .bool o2, .slice A2 n2 c2)] [w.heap.size + 1, w.heap.size + 1 + 1] W) (by kernel_rfl) hXD (fun hS => ?_)
        clear hXD
        generalize w7.drew = wd at hS HW1 HW2 ⊢
        refine wpAnyH_take (i := 0) (v := ?_) rfl (by kernel_rfl) (by kernel_rfl) (by kernel_rfl) (fun _ _ _ h => h) (Or.inl ⟨by kernel_rfl, fun W hW => ?_⟩) hS ?_
        rotate_left
        · have f := hW.at0
          simp only [List.mem_cons, List.not_mem_nil, or_false, forall_eq_or_imp, forall_eq] at f
          obtain ⟨⟨a0, a1, l1⟩, ⟨b0, b1, l2⟩, e0, e1, l3⟩ := f
          first | (go_simp; done) | (go_simp; with_reducible rfl)
        refine wpAnyH_take (i := 1) (v := ?_) rfl (by kernel_rfl) (by kernel_rfl) (by kernel_rfl) (fun _ _ _ h => h) (Or.inl ⟨by kernel_rfl, fun W hW => ?_⟩) hS ?_
        rotate_left
        · have f := hW.at0
          simp only [List.mem_cons, List.not_mem_nil, or_false, forall_eq_or_imp, forall_eq] at f
          obtain ⟨⟨a0, a1, l1⟩, ⟨b0, b1, l2⟩, e0, e1, l3⟩ := f
          first | (go_simp; done) | (go_simp; with_reducible rfl)
        have HS := Lib.hid hS
        have HFIN := Lib.hid (hS.fin2 HW1.out HW2.out (w.heap.size + 1) (w.heap.size + 1 + 1) (by simp) (by simp) (.int .i64 0) (.bool o1) (.slice A1 n1 c1) (.bool o2) (.slice A2 n2 c2) 0 (by have := HSZ.out; simp; omega) (by have := HSZ.out; simp; omega) rfl)
        have HS1 := Lib.hid ((hS.store (w.heap.size + 1) 0 (.bool o1) (by simp) (by have := HSZ.out; simp; omega)).store (w.heap.size + 1) 1 (.slice A1 n1 c1) (by simp) (by have := HSZ.out; simp; omega))
        have HS2 := Lib.hid ((HS1.out.store (w.heap.size + 1 + 1) 0 (.bool o2) (by simp) (by have := HSZ.out; simp; omega)).store (w.heap.size + 1 + 1) 1 (.slice A2 n2 c2) (by simp) (by have := HSZ.out; simp; omega))
        obtain ⟨y0, y1, ⟨d0, d1⟩, f0, f1⟩ := hS.facts (w.heap.size + 1) (by simp)
        obtain ⟨y2, y3, ⟨d2, d3⟩, f2, f3⟩ := hS.facts (w.heap.size + 1 + 1) (by simp)
        clear hS HS HW1 HW2
        refine wpAnyH_ready (rs := [2]) (by kernel_rfl) (by simp) ?_
        refine AllReadyH.cons rfl (fun K hK => ?_) AllReadyH.nil
        go_simp
        go_wp2
        refine hK.out _ _ HS1.out (fun _ => ?_)
        clear hK K
        refine wpAnyH_ready (rs := [3]) (by kernel_rfl) (by simp) ?_
        refine AllReadyH.cons rfl (fun K hK => ?_) AllReadyH.nil
        go_simp
        go_wp2
        refine hK.out _ _ HS2.out (fun hS => ?_)
        clear hK K HS1 HS2
        refine wpAnyH_take (i := 4) (v := ?_) rfl (by kernel_rfl) (by kernel_rfl) (by kernel_rfl) (fun _ _ _ h => h) (Yields.yieldsIf (Or.inl ⟨by kernel_rfl, ?_⟩)) hS ?_
        rotate_left
        · first | (intro w; go_simp; done) | (intro w; go_simp; with_reducible rfl)
        refine wpAnyH_done (by kernel_rfl) ?_ _
        clear hS
        go_wp2
        refine bodyPost_ret (v := .tuple #[tv o1 A1 n1 c1, tv o2 A2 n2 c2, .int .i64 0]) (by simp [results, Tryd.f23, go_sem, tv, d0, d1, d2, d3]) rfl ?_
        rw [HE.out, if_pos ⟨trivial, trivial⟩]
        exact HFIN.out
end Go.Proofs.YtoaglkjpjolacaaDoor.I
