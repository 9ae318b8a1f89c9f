/-
  Stamps, plainly: what the fill and the growth of an event tree denote.
-/
import Derived.Test.YtoaglkjpjolacaaGreatDoorVE1
import Derived.Test.YtoaglkjpjolacaaGreatDoorVI4
import Derived.Test.YtoaglkjpjolacaaGreatDoorVE3
import Derived.Test.YtoaglkjpjolacaaGreatDoorVE6
import Derived.Test.YtoaglkjpjolacaaGreatDoorVE5
import Derived.Test.YtoaglkjpjolacaaGreatDoorVE2
import Derived.OrdersHeld
import Derived.Deep.RegionHeld
import Derived.Deep.DeepCutAuto
import Derived.Laws.EntriesVeiled
namespace Go.Proofs.YtoaglkjpjolacaaGreatDoor.S
open Go.RowKit
/-- The fill, its normal form left out. -/
def fillT : I.Tr → E.Tr → E.Tr
  | .leaf false, e => e
  | .leaf true, e => .leaf (E.high e)
  | .node _ _, .leaf n => .leaf n
  | .node (.leaf true) r, .node n a b => .node n (.leaf (max (E.high a) (E.low (fillT r b)))) (fillT r b)
  | .node l (.leaf true), .node n a b => .node n (fillT l a) (.leaf (max (E.high b) (E.low (fillT l a))))
  | .node l r, .node n a b => .node n (fillT l a) (fillT r b)
def one : I.Tr → Bool
  | .leaf true => true
  | _ => false
def zero : I.Tr → Bool
  | .leaf false => true
  | _ => false
theorem one_iff {t : I.Tr} : one t = true ↔ t = .leaf true := by
  cases t with
  | leaf o => cases o <;> simp [one]
  | node x y => simp [one]
theorem zero_iff {t : I.Tr} : zero t = true ↔ t = .leaf false := by
  cases t with
  | leaf o => cases o <;> simp [zero]
  | node x y => simp [zero]
theorem fill_l {l r : I.Tr} {n : Int} {a b : E.Tr} (h : one l = true) : fillT (.node l r) (.node n a b) = .node n (.leaf (max (E.high a) (E.low (fillT r b)))) (fillT r b) := by
  rw [one_iff] at h; subst h; rfl
theorem fill_r {l r : I.Tr} {n : Int} {a b : E.Tr} (hl : one l = false) (h : one r = true) : fillT (.node l r) (.node n a b) = .node n (fillT l a) (.leaf (max (E.high b) (E.low (fillT l a)))) := by
  rw [one_iff] at h; subst h
  cases l with
  | leaf o => cases o; rfl; simp [one] at hl
  | node x y => rfl
theorem fill_b {l r : I.Tr} {n : Int} {a b : E.Tr} (hl : one l = false) (h : one r = false) : fillT (.node l r) (.node n a b) = .node n (fillT l a) (fillT r b) := by
  cases l with
  | leaf o => cases o with
    | true => simp [one] at hl
    | false => cases r with
      | leaf o => cases o; rfl; simp [one] at h
      | node x y => rfl
  | node x y => cases r with
      | leaf o => cases o; rfl; simp [one] at h
      | node x y => rfl
theorem fill_leaf (x y : I.Tr) (n : Int) : fillT (.node x y) (.leaf n) = .leaf n := by
  cases x with
  | leaf o => cases o <;> (cases y with
    | leaf o => cases o <;> rfl
    | node x y => rfl)
  | node u v => cases y with
    | leaf o => cases o <;> rfl
    | node x y => rfl
theorem fill_okc : ∀ (i : I.Tr) (e : E.Tr) (m : Int), e.okc m = true → (fillT i e).okc m = true
  | .leaf false, e, m, h => h
  | .leaf true, e, m, h => by
    have := E.high_okc h
    simp only [fillT, E.Tr.okc, decide_eq_true_eq]; exact this
  | .node x y, .leaf n, m, h => by rw [fill_leaf]; exact h
  | .node l r, .node n a b, m, h => by
    simp only [E.Tr.okc, Bool.and_eq_true, decide_eq_true_eq] at h
    obtain ⟨hn, ha, hb⟩ := h
    have h1 := fill_okc l a (m - n) ha
    have h2 := fill_okc r b (m - n) hb
    have g1 := E.low_okc h1
    have g2 := E.low_okc h2
    have g3 := E.high_okc ha
    have g4 := E.high_okc hb
    by_cases k1 : one l = true
    · rw [fill_l k1]
      simp only [E.Tr.okc, Bool.and_eq_true, decide_eq_true_eq]
      exact ⟨hn, by omega, h2⟩
    · have k1' : one l = false := by simpa using k1
      by_cases k2 : one r = true
      · rw [fill_r k1' k2]
        simp only [E.Tr.okc, Bool.and_eq_true, decide_eq_true_eq]
        exact ⟨hn, h1, by omega⟩
      · rw [fill_b k1' (by simpa using k2)]
        simp only [E.Tr.okc, Bool.and_eq_true, decide_eq_true_eq]
        exact ⟨hn, h1, h2⟩
theorem fill_size : ∀ (i : I.Tr) (e : E.Tr), (fillT i e).depth ≤ e.depth ∧ (fillT i e).nodes ≤ e.nodes
  | .leaf false, e => ⟨Nat.le_refl _, Nat.le_refl _⟩
  | .leaf true, e => ⟨Nat.zero_le _, E.Tr.nodes_pos e⟩
  | .node x y, .leaf n => by rw [fill_leaf]; exact ⟨Nat.le_refl _, Nat.le_refl _⟩
  | .node l r, .node n a b => by
    have h1 := fill_size l a
    have h2 := fill_size r b
    have g1 := E.Tr.nodes_pos a
    have g2 := E.Tr.nodes_pos b
    by_cases k1 : one l = true
    · rw [fill_l k1]; simp only [E.Tr.depth, E.Tr.nodes]; omega
    · have k1' : one l = false := by simpa using k1
      by_cases k2 : one r = true
      · rw [fill_r k1' k2]; simp only [E.Tr.depth, E.Tr.nodes]; omega
      · rw [fill_b k1' (by simpa using k2)]; simp only [E.Tr.depth, E.Tr.nodes]; omega
theorem fill_ok (i : I.Tr) {e : E.Tr} (h : E.okT e = true) : E.okT (fillT i e) = true := by
  rw [E.okT_iff] at h ⊢
  have := fill_size i e
  exact ⟨by omega, fill_okc i e _ h.2.1, by omega⟩
theorem ok_kids {n : Int} {a b : E.Tr} (h : E.okT (.node n a b) = true) : E.okT a = true ∧ E.okT b = true ∧ 0 ≤ n ∧ n ≤ 4611686018427387904 := by
  rw [E.okT_iff] at h
  obtain ⟨h1, h2, h3⟩ := h
  simp only [E.Tr.okc, Bool.and_eq_true, decide_eq_true_eq] at h2
  obtain ⟨hn, ha, hb⟩ := h2
  simp only [E.Tr.depth] at h1
  simp only [E.Tr.nodes] at h3
  have up : ∀ t : E.Tr, t.okc (E.mc - n) = true → t.okc E.mc = true := by
    have key : ∀ (t : E.Tr) (m m' : Int), m ≤ m' → t.okc m = true → t.okc m' = true := by
      intro t
      induction t with
      | leaf k => intro m m' hm h; simp only [E.Tr.okc, decide_eq_true_eq] at h ⊢; omega
      | node k x y ihx ihy =>
        intro m m' hm h
        simp only [E.Tr.okc, Bool.and_eq_true, decide_eq_true_eq] at h ⊢
        exact ⟨by omega, ihx _ _ (by omega) h.2.1, ihy _ _ (by omega) h.2.2⟩
    exact fun t h => key t _ _ (by omega) h
  refine ⟨(E.okT_iff a).2 ⟨by omega, up a ha, by omega⟩, (E.okT_iff b).2 ⟨by omega, up b hb, by omega⟩, hn.1, ?_⟩
  have := hn.2
  unfold E.mc at this
  exact this

/-- What a growth costs: leaves opened, levels. -/
abbrev Cost := Nat × Nat
def below (x y : Cost) : Bool := if x.1 ≠ y.1 then decide (x.1 < y.1) else decide (x.2 < y.2)
mutual
/-- The growth. -/
def growT : I.Tr → E.Tr → E.Tr × Cost
  | .leaf _, e => (.leaf (e.N + 1), (0, 0))
  | .node l r, .leaf n =>
    let g := innT l r n (.leaf 0) (.leaf 0)
    (g.1, (g.2.1 + 1, g.2.2))
  | .node l r, .node n a b => innT l r n a b
termination_by i => 2 * i.nodes
decreasing_by all_goals (simp only [I.Tr.nodes]; omega)
def innT (l r : I.Tr) (n : Int) (a b : E.Tr) : E.Tr × Cost :=
  let x := growT l a
  let y := growT r b
  let first := (E.Tr.node n x.1 b, (x.2.1, x.2.2 + 1))
  let second := (E.Tr.node n a y.1, (y.2.1, y.2.2 + 1))
  if zero l = true then second else if zero r = true then first else
    if first.2 = second.2 ∨ below second.2 first.2 = true then second else first
termination_by 2 * (l.nodes + r.nodes) + 1
decreasing_by all_goals (have := I.Tr.nodes_pos l; have := I.Tr.nodes_pos r; omega)
end
/-- Does the growth only meet leaves where the identity is 1? -/
def flat : I.Tr → E.Tr → Bool
  | .leaf false, _ => true
  | .leaf true, .leaf _ => true
  | .leaf true, .node _ _ _ => false
  | .node _ _, .leaf _ => true
  | .node l r, .node _ a b => flat l a && flat r b
theorem den_leaf (n : Int) (f : Nat → Bool) : E.den (.leaf n) f = n := rfl
/-- Where the fill changes nothing, the growth meets leaves. -/
theorem flat_of_fill : ∀ (i : I.Tr) (e : E.Tr), E.Nf e → (∀ f, E.den (fillT i e) f = E.den e f) → flat i e = true
  | .leaf false, e, _, _ => by cases e <;> rfl
  | .leaf true, .leaf n, _, _ => rfl
  | .leaf true, .node n a b, hn, h => by
    have h' : ∀ f, E.den (.node n a b) f = E.high (.node n a b) := fun f => (h f).symm
    exact absurd (hn.const h') (by simp)
  | .node _ _, .leaf _, _, _ => rfl
  | .node l r, .node n a b, hn, h => by
    obtain ⟨ha, hb, _, _⟩ := hn
    have hL : ∀ f, E.den (fillT (.node l r) (.node n a b)) (E.ct false f) = n + E.den a f := fun f => (h _).trans (E.den_false n a b f)
    have hR : ∀ f, E.den (fillT (.node l r) (.node n a b)) (E.ct true f) = n + E.den b f := fun f => (h _).trans (E.den_true n a b f)
    simp only [flat, Bool.and_eq_true]
    by_cases k1 : one l = true
    · rw [fill_l k1] at hL hR
      simp only [E.den_false, E.den_true, den_leaf] at hL hR
      refine ⟨?_, flat_of_fill r b hb fun f => by have := hR f; omega⟩
      rw [one_iff] at k1; subst k1
      have := ha.const (c := max (E.high a) (E.low (fillT r b))) (fun f => by have := hL f; omega)
      rw [this]; rfl
    · have k1' : one l = false := by simpa using k1
      by_cases k2 : one r = true
      · rw [fill_r k1' k2] at hL hR
        simp only [E.den_false, E.den_true, den_leaf] at hL hR
        refine ⟨flat_of_fill l a ha fun f => by have := hL f; omega, ?_⟩
        rw [one_iff] at k2; subst k2
        have := hb.const (c := max (E.high b) (E.low (fillT l a))) (fun f => by have := hR f; omega)
        rw [this]; rfl
      · rw [fill_b k1' (by simpa using k2)] at hL hR
        simp only [E.den_false, E.den_true] at hL hR
        exact ⟨flat_of_fill l a ha fun f => by have := hL f; omega, flat_of_fill r b hb fun f => by have := hR f; omega⟩
/-- No two leaves 0 beside each other: so whatever is no leaf 0 is not empty. -/
def Nz : I.Tr → Prop
  | .leaf _ => True
  | .node l r => Nz l ∧ Nz r ∧ ¬ (zero l = true ∧ zero r = true)
theorem nz_norm : ∀ t : I.Tr, t.norm = t → Nz t
  | .leaf _, _ => trivial
  | .node x y, h => by
    have hk := I.norm_kids h
    refine ⟨nz_norm x hk.1, nz_norm y hk.2, ?_⟩
    rintro ⟨h1, h2⟩
    rw [zero_iff] at h1 h2
    subst h1; subst h2
    exact absurd h (by simp [I.Tr.norm, I.Tr.mk2])
/-- What a growth does: nowhere less, the same outside the identity, at most one more, and somewhere more. -/
structure Grows (i : I.Tr) (e t : E.Tr) : Prop where
  up : ∀ f, E.den e f ≤ E.den t f
  off : ∀ f, I.den i f = false → E.den t f = E.den e f
  top : ∀ f, E.den t f ≤ E.high e + 1
  gain : ∃ f, I.den i f = true ∧ E.den e f < E.den t f
  deep : t.depth ≤ max e.depth i.depth
  size : t.nodes ≤ e.nodes + 2 * i.depth
theorem Grows.left {l r : I.Tr} {n : Int} {a b t : E.Tr} (h : Grows l a t) : Grows (.node l r) (.node n a b) (.node n t b) where
  up f := by simp only [E.den]; have := h.up (E.tl f); split <;> omega
  off f hf := by
    simp only [E.den]; simp only [I.den] at hf
    by_cases h0 : f 0 = true
    · simp [h0]
    · simp only [h0, if_false, Bool.false_eq_true] at hf ⊢; have := h.off (E.tl f) hf; omega
  top f := by
    simp only [E.den, E.high]
    have := h.top (E.tl f); have := E.le_high b (E.tl f); split <;> omega
  gain := by
    obtain ⟨f, h1, h2⟩ := h.gain
    exact ⟨E.ct false f, h1, by rw [E.den_false, E.den_false]; omega⟩
  deep := by simp only [E.Tr.depth, I.Tr.depth]; have := h.deep; omega
  size := by simp only [E.Tr.nodes, I.Tr.depth]; have := h.size; omega
theorem Grows.right {l r : I.Tr} {n : Int} {a b t : E.Tr} (h : Grows r b t) : Grows (.node l r) (.node n a b) (.node n a t) where
  up f := by simp only [E.den]; have := h.up (E.tl f); split <;> omega
  off f hf := by
    simp only [E.den]; simp only [I.den] at hf
    by_cases h0 : f 0 = true
    · simp only [h0, if_true] at hf ⊢; have := h.off (E.tl f) hf; omega
    · simp [h0]
  top f := by
    simp only [E.den, E.high]
    have := h.top (E.tl f); have := E.le_high a (E.tl f); split <;> omega
  gain := by
    obtain ⟨f, h1, h2⟩ := h.gain
    exact ⟨E.ct true f, h1, by rw [E.den_true, E.den_true]; omega⟩
  deep := by simp only [E.Tr.depth, I.Tr.depth]; have := h.deep; omega
  size := by simp only [E.Tr.nodes, I.Tr.depth]; have := h.size; omega
end Go.Proofs.YtoaglkjpjolacaaGreatDoor.S
namespace Go.Proofs.YtoaglkjpjolacaaGreatDoor.S
open Go.RowKit
/-- Cells of a variable that can't be a node's two kids: fewer than four, or a stamp's four. -/
def Flat (cs : Array Value) : Prop := cs.size ≤ 3 ∨ (cs.size = 4 ∧ (∃ o, cs[0]? = some (.bool o)) ∧ (∃ n, cs[2]? = some (.int .i64 n)))
/-- A variable of k cells. -/
def Bx (W : World) (g k : Nat) : Prop := ∃ (cs : Array Value) (t : TypeId), W.heap[g]? = some (.cells cs t (0, 0)) ∧ cs.size = k ∧ Flat cs
theorem Bx.cell {W : World} {g : Nat} {cs : Array Value} {t : TypeId} (h : W.heap[g]? = some (.cells cs t (0, 0))) (i : Nat) : W.cell? ⟨g, i, none⟩ = cs[i]? := cell_of_row W g i cs t (0, 0) h
theorem Bx.noE {W : World} {g k off : Nat} (h : Bx W g k) {n : Int} {u : Value} (h0 : W.cell? ⟨g, off, none⟩ = some (.int .i64 n)) (h3 : W.cell? ⟨g, off + 3, none⟩ = some u) : False := by
  obtain ⟨cs, t, hc, _, hf⟩ := h
  rw [Bx.cell hc] at h0 h3
  have hlt : off + 3 < cs.size := (Array.getElem?_eq_some_iff.1 h3).1
  rcases hf with hf | ⟨hs, ⟨o, ho⟩, _⟩
  · omega
  · obtain rfl : off = 0 := by omega
    rw [ho] at h0; cases h0
theorem Bx.noI {W : World} {g k off : Nat} (h : Bx W g k) {o : Bool} {u : Value} (h2 : W.cell? ⟨g, off + 2, none⟩ = some (.bool o)) (h3 : W.cell? ⟨g, off + 3, none⟩ = some u) : False := by
  obtain ⟨cs, t, hc, _, hf⟩ := h
  rw [Bx.cell hc] at h2 h3
  have hlt : off + 3 < cs.size := (Array.getElem?_eq_some_iff.1 h3).1
  rcases hf with hf | ⟨hs, _, ⟨n, hn⟩⟩
  · omega
  · obtain rfl : off = 0 := by omega
    rw [hn] at h2; cases h2
theorem cell_far (W : World) {g b : Nat} (hne : b ≠ g) (i j : Nat) (u : Value) : (W.setCell ⟨g, i, none⟩ u).cell? ⟨b, j, none⟩ = W.cell? ⟨b, j, none⟩ := World.cell?_setCell_other _ _ _ _ (fun e => by injection e with e1 _ _; exact hne e1.symm)
theorem Bx.ein {P : Nat → Prop} {W : World} {g k i : Nat} {u : Value} (hg : Bx W g k) : ∀ {t : E.Tr} {v : Value}, E.InP P W t v → E.InP P (W.setCell ⟨g, i, none⟩ u) t v
  | .leaf _, _, h => h
  | .node _ _ _, _, ⟨b, off, c, e, hb, ⟨o1, A1, n1, c1, k1, k2, k3⟩, ⟨o2, A2, n2, c2, g1, g2, g3⟩⟩ => by
    have hne : b ≠ g := by rintro rfl; exact hg.noE k1 g2
    exact ⟨b, off, c, e, hb, ⟨o1, A1, n1, c1, (cell_far W hne _ _ u).trans k1, (cell_far W hne _ _ u).trans k2, Bx.ein hg k3⟩, ⟨o2, A2, n2, c2, (cell_far W hne _ _ u).trans g1, (cell_far W hne _ _ u).trans g2, Bx.ein hg g3⟩⟩
theorem Bx.iin {B : Nat} {W : World} {g k i : Nat} {u : Value} (hg : Bx W g k) : ∀ {t : I.Tr} {v : Value}, I.InT W B t v → I.InT (W.setCell ⟨g, i, none⟩ u) B t v
  | .leaf _, _, h => h
  | .node _ _, _, ⟨b, off, c, e, hb, ⟨o1, A1, n1, c1, k1, k2, k3⟩, ⟨o2, A2, n2, c2, g1, g2, g3⟩⟩ => by
    have hne : b ≠ g := by rintro rfl; exact hg.noI g1 g2
    exact ⟨b, off, c, e, hb, ⟨o1, A1, n1, c1, (cell_far W hne _ _ u).trans k1, (cell_far W hne _ _ u).trans k2, Bx.iin hg k3⟩, ⟨o2, A2, n2, c2, (cell_far W hne _ _ u).trans g1, (cell_far W hne _ _ u).trans g2, Bx.iin hg g3⟩⟩
/-- What may be written into a cell of a variable of k cells. -/
def Fits (k i : Nat) (u : Value) : Prop := i < k ∧ (k ≤ 3 ∨ (k = 4 ∧ (i = 0 → ∃ o, u = .bool o) ∧ (i = 2 → ∃ n, u = .int .i64 n)))
theorem Bx.set {W : World} {g k i : Nat} {u : Value} (h : Bx W g k) (hu : Fits k i u) : Bx (W.setCell ⟨g, i, none⟩ u) g k := by
  obtain ⟨cs, t, h1, h2, h3⟩ := h
  refine ⟨cs.setIfInBounds i u, t, by simp [World.setCell, Array.getElem?_modify, h1], by simpa using h2, ?_⟩
  rcases hu.2 with hk | ⟨hk, hu0, hu2⟩
  · left; simp; omega
  · rcases h3 with h3 | ⟨hs, ⟨o, ho⟩, ⟨n, hn⟩⟩
    · omega
    · right
      refine ⟨by simpa using hs, ?_, ?_⟩
      · by_cases hi : i = 0
        · obtain ⟨o', rfl⟩ := hu0 hi; subst hi; exact ⟨o', by simp [hs]⟩
        · exact ⟨o, by rw [Array.getElem?_setIfInBounds, if_neg hi]; exact ho⟩
      · by_cases hi : i = 2
        · obtain ⟨o', rfl⟩ := hu2 hi; subst hi; exact ⟨o', by simp [hs]⟩
        · exact ⟨n, by rw [Array.getElem?_setIfInBounds, if_neg hi]; exact hn⟩
theorem Bx.below {W W' : World} {g k B : Nat} (h : Bx W g k) (hb : Below B W W') (hg : g < B) : Bx W' g k := by
  obtain ⟨cs, t, h1, h2⟩ := h
  exact ⟨cs, t, (hb.block g hg).trans h1, h2⟩
theorem Bx.lt {W : World} {g k : Nat} (h : Bx W g k) : g < W.heap.size := by
  obtain ⟨cs, t, h1, _⟩ := h
  exact (Array.getElem?_eq_some_iff.1 h1).1
theorem Bx.far {W : World} {g g' k i : Nat} (h : Bx W g k) (hne : g ≠ g') (u : Value) : Bx (W.setCell ⟨g', i, none⟩ u) g k := by
  obtain ⟨cs, t, h1, h2⟩ := h
  exact ⟨cs, t, (Below.heap_setCell W ⟨g', i, none⟩ u g hne).trans h1, h2⟩
theorem Bx.there {W : World} {g k i : Nat} (h : Bx W g k) (hi : i < k) : ∃ u, W.cell? ⟨g, i, none⟩ = some u := by
  obtain ⟨cs, t, h1, h2, _⟩ := h
  exact ⟨cs[i]'(by omega), by rw [Bx.cell h1]; exact Array.getElem?_eq_getElem _⟩
theorem Bx.thaw {W : World} {g k : Nat} (h : Bx W g k) (i : Nat) : W.frozen? ⟨g, i, none⟩ = false := by
  obtain ⟨cs, t, h1, _⟩ := h
  simp [World.frozen?, h1]
theorem Bx.new (W : World) (cs : Array Value) (t : TypeId) (k : Nat) (hk : cs.size = k) (hf : Flat cs) : Bx (W.alloc (.cells cs t)) W.heap.size k := ⟨cs, t, heap_alloc_new W _, hk, hf⟩
theorem Bx.read {W : World} {g k i : Nat} {u : Value} (h : Bx W g k) (hi : i < k) : (W.setCell ⟨g, i, none⟩ u).cell? ⟨g, i, none⟩ = some u := by
  obtain ⟨v, hv⟩ := h.there hi
  simp [go_sem, hv]
abbrev IT (W : World) (t : I.Tr) (v : Value) : Prop := I.InT W W.heap.size t v
abbrev ET (W : World) (t : E.Tr) (v : Value) : Prop := E.InT W W.heap.size t v

/-- What a walk knows: cells that hold what they hold; variables of the call's own; trees of both kinds; what lay below lies as it lay. -/
structure SX (w : World) (bs : List (Nat × Nat × Value)) (rs : List (Nat × Nat)) (is : List (I.Tr × Value)) (es : List (E.Tr × Value)) (W : World) : Prop where
  at0 : ∀ b ∈ bs, W.cell? ⟨b.1, b.2.1, none⟩ = some b.2.2
  box : ∀ r ∈ rs, Bx W r.1 r.2 ∧ w.heap.size ≤ r.1
  its : ∀ p ∈ is, IT W p.1 p.2
  ets : ∀ p ∈ es, ET W p.1 p.2
  bel : Below w.heap.size w W
section
variable {w W W' : World} {bs bs' : List (Nat × Nat × Value)} {rs rs' : List (Nat × Nat)} {is is' : List (I.Tr × Value)} {es es' : List (E.Tr × Value)}
theorem SX.begin (w : World) : SX w [] [] [] [] w := ⟨by simp, by simp, by simp, by simp, Below.refl _ _⟩
theorem SX.next (h : SX w bs rs is es W) (hb : Below W.heap.size W W') : SX w bs rs is es W' :=
  ⟨fun b hm => (hb.cell (World.block_lt_of_cell? W _ (h.at0 b hm))).trans (h.at0 b hm), fun r hm => ⟨(h.box r hm).1.below hb (h.box r hm).1.lt, (h.box r hm).2⟩, fun p hm => (h.its p hm).up hb, fun p hm => E.InP.up (h.ets p hm) hb, h.bel.trans (hb.mono h.bel.size)⟩
theorem SX.drew (h : SX w bs rs is es W) : SX w bs rs is es W.drew := h.next ((Below.refl W.heap.size W).drew)
theorem SX.alloc (h : SX w bs rs is es W) (o : Obj) : SX w bs rs is es (W.alloc o) := h.next ((Below.refl W.heap.size W).alloc (Nat.le_refl _) _)
theorem SX.sub (h : SX w bs rs is es W) (h1 : ∀ b ∈ bs', b ∈ bs) (h2 : ∀ r ∈ rs', r ∈ rs) (h3 : ∀ r ∈ is', r ∈ is) (h4 : ∀ r ∈ es', r ∈ es) : SX w bs' rs' is' es' W := ⟨fun b hm => h.at0 b (h1 b hm), fun r hm => h.box r (h2 r hm), fun p hm => h.its p (h3 p hm), fun p hm => h.ets p (h4 p hm), h.bel⟩
theorem SX.get (h : SX w bs rs is es W) {g i : Nat} {v : Value} (hm : (g, i, v) ∈ bs) : W.cell? ⟨g, i, none⟩ = some v := h.at0 _ hm
theorem SX.i (h : SX w bs rs is es W) {t : I.Tr} {v : Value} (ht : IT W t v) : SX w bs rs ((t, v) :: is) es W := ⟨h.at0, h.box, fun p hm => by rcases List.mem_cons.1 hm with rfl | hm; exact ht; exact h.its p hm, h.ets, h.bel⟩
theorem SX.e (h : SX w bs rs is es W) {t : E.Tr} {v : Value} (ht : ET W t v) : SX w bs rs is ((t, v) :: es) W := ⟨h.at0, h.box, h.its, fun p hm => by rcases List.mem_cons.1 hm with rfl | hm; exact ht; exact h.ets p hm, h.bel⟩
theorem SX.cel (h : SX w bs rs is es W) {g i : Nat} {v : Value} (hc : W.cell? ⟨g, i, none⟩ = some v) : SX w ((g, i, v) :: bs) rs is es W := ⟨fun b hm => by rcases List.mem_cons.1 hm with rfl | hm; exact hc; exact h.at0 b hm, h.box, h.its, h.ets, h.bel⟩
theorem SX.iget (h : SX w bs rs is es W) {t : I.Tr} {v : Value} (hm : (t, v) ∈ is) : IT W t v := h.its _ hm
theorem SX.eget (h : SX w bs rs is es W) {t : E.Tr} {v : Value} (hm : (t, v) ∈ es) : ET W t v := h.ets _ hm
/-- A variable of one cell. -/
theorem SX.one (h : SX w bs rs is es W) (u : Value) (t : TypeId) : SX w (bs ++ [(W.heap.size, 0, u)]) (rs ++ [(W.heap.size, 1)]) is es (W.alloc (.cells #[u] t)) := by
  have h1 := h.alloc (.cells #[u] t)
  refine ⟨fun b hm => ?_, fun r hm => ?_, h1.its, h1.ets, h1.bel⟩
  · rcases List.mem_append.1 hm with hm | hm
    · exact h1.at0 b hm
    · simp only [List.mem_singleton] at hm; subst hm; simp [go_sem]
  · rcases List.mem_append.1 hm with hm | hm
    · exact h1.box r hm
    · simp only [List.mem_singleton] at hm; subst hm
      exact ⟨Bx.new W _ t 1 rfl (.inl (by simp)), h.bel.size⟩
/-- A variable of two cells. -/
theorem SX.two (h : SX w bs rs is es W) (u v : Value) (t : TypeId) : SX w (bs ++ [(W.heap.size, 0, u), (W.heap.size, 1, v)]) (rs ++ [(W.heap.size, 2)]) is es (W.alloc (.cells #[u, v] t)) := by
  have h1 := h.alloc (.cells #[u, v] t)
  refine ⟨fun b hm => ?_, fun r hm => ?_, h1.its, h1.ets, h1.bel⟩
  · rcases List.mem_append.1 hm with hm | hm
    · exact h1.at0 b hm
    · simp only [List.mem_cons, List.not_mem_nil, or_false] at hm
      rcases hm with rfl | rfl <;> simp [go_sem]
  · rcases List.mem_append.1 hm with hm | hm
    · exact h1.box r hm
    · simp only [List.mem_singleton] at hm; subst hm
      exact ⟨Bx.new W _ t 2 rfl (.inl (by simp)), h.bel.size⟩
/-- A variable for a stamp. -/
theorem SX.four (h : SX w bs rs is es W) (o : Bool) (u : Value) (n : Int) (v : Value) (t : TypeId) : SX w (bs ++ [(W.heap.size, 0, .bool o), (W.heap.size, 1, u), (W.heap.size, 2, .int .i64 n), (W.heap.size, 3, v)]) (rs ++ [(W.heap.size, 4)]) is es (W.alloc (.cells #[.bool o, u, .int .i64 n, v] t)) := by
  have h1 := h.alloc (.cells #[.bool o, u, .int .i64 n, v] t)
  refine ⟨fun b hm => ?_, fun r hm => ?_, h1.its, h1.ets, h1.bel⟩
  · rcases List.mem_append.1 hm with hm | hm
    · exact h1.at0 b hm
    · simp only [List.mem_cons, List.not_mem_nil, or_false] at hm
      rcases hm with rfl | rfl | rfl | rfl <;> simp [go_sem]
  · rcases List.mem_append.1 hm with hm | hm
    · exact h1.box r hm
    · simp only [List.mem_singleton] at hm; subst hm
      exact ⟨Bx.new W _ t 4 rfl (.inr ⟨rfl, ⟨o, rfl⟩, ⟨n, rfl⟩⟩), h.bel.size⟩
/-- A write into a variable's cell of which nothing is said. -/
theorem SX.store (h : SX w bs rs is es W) (g k i : Nat) (u : Value) (hg : (g, k) ∈ rs) (hu : Fits k i u) (hd : ∀ b ∈ bs, b.1 ≠ g ∨ b.2.1 ≠ i) (hr : ∀ r ∈ rs, r.1 = g → r.2 = k) : SX w bs rs is es (W.setCell ⟨g, i, none⟩ u) := by
  have hb := (h.box _ hg).1
  refine ⟨fun b hm => (World.cell?_setCell_other _ _ _ _ (fun e => by injection e with e e'; rcases hd b hm with h | h; exact h e.symm; exact h e'.symm)).trans (h.at0 b hm), fun r hm => ⟨?_, (h.box r hm).2⟩, fun p hm => ?_, fun p hm => ?_, h.bel.setCell (p := ⟨g, i, none⟩) (h.box _ hg).2 _⟩
  · by_cases e : r.1 = g
    · have e2 := hr r hm e
      rw [e, e2]; exact hb.set hu
    · exact (h.box r hm).1.far e u
  · show I.InT _ _ _ _
    rw [show (W.setCell ⟨g, i, none⟩ u).heap.size = W.heap.size by simp]
    exact hb.iin (h.its p hm)
  · show E.InP _ _ _ _
    rw [show (W.setCell ⟨g, i, none⟩ u).heap.size = W.heap.size by simp]
    exact hb.ein (h.ets p hm)
/-- The same, with what was written. -/
theorem SX.put (h : SX w bs rs is es W) (g k i : Nat) (u : Value) (hg : (g, k) ∈ rs) (hu : Fits k i u) (hd : ∀ b ∈ bs, b.1 ≠ g ∨ b.2.1 ≠ i) (hr : ∀ r ∈ rs, r.1 = g → r.2 = k) : SX w ((g, i, u) :: bs) rs is es (W.setCell ⟨g, i, none⟩ u) := (h.store g k i u hg hu hd hr).cel ((h.box _ hg).1.read hu.1)
theorem SX.there (h : SX w bs rs is es W) (g k : Nat) (hg : (g, k) ∈ rs) (i : Nat) (hi : i < k) : ∃ u, W.cell? ⟨g, i, none⟩ = some u := (h.box _ hg).1.there hi
theorem SX.thaw (h : SX w bs rs is es W) (g k : Nat) (hg : (g, k) ∈ rs) (i : Nat) : W.frozen? ⟨g, i, none⟩ = false := (h.box _ hg).1.thaw i
end
/-- A call that hands back an event tree. -/
def TreeI (t : E.Tr) (w : World) (e : Ending) (w' : World) : Prop := ∃ v, e = .returned v ∧ ET w' t v ∧ Below w.heap.size w w'

theorem zero_in {w : World} {B : Nat} {t : I.Tr} {o : Bool} {A : Option Addr} {n c : Nat} (h : I.InT w B t (I.tv o A n c)) : zero t = (decide (n = 0) && !o) := by
  rcases h.leafy with ⟨rfl, rfl⟩ | ⟨rfl, rfl, l, r, rfl⟩
  · cases o <;> rfl
  · rfl
theorem one_in {w : World} {B : Nat} {t : I.Tr} {o : Bool} {A : Option Addr} {n c : Nat} (h : I.InT w B t (I.tv o A n c)) : one t = (decide (n = 0) && o) := by
  rcases h.leafy with ⟨rfl, rfl⟩ | ⟨rfl, rfl, l, r, rfl⟩
  · cases o <;> rfl
  · rfl
set_option maxHeartbeats 800000 in
theorem szero_any (t : I.Tr) (v : Value) (w : World) {B : Nat} (h : I.InT w B t v) : Calls Tryz.prog 35 #[v] w fun e w' => e = .returned (.bool (zero t)) ∧ Below w.heap.size w w' := by
  obtain ⟨o, A, n, c, rfl⟩ := h.form
  have HZ := Lib.hid (zero_in h)
  have HB : Hid (Below w.heap.size w (w.alloc (.cells #[.bool o, .slice A n c] 24))) := (Below.refl _ w).alloc (Nat.le_refl _) _
  clear h
  unfold I.tv
  by_cases h0 : n = 0
  · subst h0
    go_enter Tryz.func35, Tryz.ntmps35
    go_wp2
    go_ret
    exact ⟨I.ret_bool (by rw [HZ.out]; simp), HB.out⟩
  · have h0b : ((n : Int) == 0) = false := beq_eq_false_iff_ne.2 (by omega)
    have H0 := Lib.hid h0
    clear h0
    go_enter Tryz.func35, Tryz.ntmps35
    go_wp2
    go_ret
    exact ⟨I.ret_bool (by rw [HZ.out]; simp [H0.out]), HB.out⟩
set_option maxHeartbeats 800000 in
theorem sone_any (t : I.Tr) (v : Value) (w : World) {B : Nat} (h : I.InT w B t v) : Calls Tryz.prog 77 #[v] w fun e w' => e = .returned (.bool (one t)) ∧ Below w.heap.size w w' := by
  obtain ⟨o, A, n, c, rfl⟩ := h.form
  have HZ := Lib.hid (one_in h)
  have HB : Hid (Below w.heap.size w (w.alloc (.cells #[.bool o, .slice A n c] 24))) := (Below.refl _ w).alloc (Nat.le_refl _) _
  clear h
  unfold I.tv
  by_cases h0 : n = 0
  · subst h0
    go_enter Tryz.func77, Tryz.ntmps77
    go_wp2
    go_ret
    exact ⟨I.ret_bool (by rw [HZ.out]; simp), HB.out⟩
  · have h0b : ((n : Int) == 0) = false := beq_eq_false_iff_ne.2 (by omega)
    have H0 := Lib.hid h0
    clear h0
    go_enter Tryz.func77, Tryz.ntmps77
    go_wp2
    go_ret
    exact ⟨I.ret_bool (by rw [HZ.out]; simp [H0.out]), HB.out⟩
theorem sleaf_any (o : Int) (A : Option Addr) (n c : Nat) (w : World) : Calls Tryz.prog 81 #[E.tv o A n c] w fun e w' => e = .returned (.bool (decide (n = 0))) ∧ Below w.heap.size w w' := by
  have h := E.int_zero n
  unfold E.tv
  go_enter Tryz.func81, Tryz.ntmps81
  go_wp2
  go_ret
  exact ⟨E.ret_bool (by simp), (Below.refl _ w).alloc (Nat.le_refl _) _⟩
set_option maxRecDepth 100000 in
set_option maxHeartbeats 800000 in
theorem most_any (t : E.Tr) (v : Value) (w : World) (h : ET w t v) (hok : E.okT t = true) : Calls Tryz.prog 79 #[v] w fun e w' => e = .returned (.int .i64 (E.high t)) ∧ Below w.heap.size w w' := by
  obtain ⟨A, n, c, rfl⟩ := E.InP.form h
  have hb0 : Below w.heap.size w (w.alloc (.cells #[.int .i64 t.N, .slice A n c] 27)) := (Below.refl _ w).alloc (Nat.le_refl _) _
  have hc := E.ends_arg (E.arg_of (E.InP.up h hb0))
  rw [E.fit_of hok] at hc
  simp only [E.endsR] at hc
  have HB := Lib.hid hb0
  unfold E.tv at *
  generalize E.low t = L at *
  generalize E.high t = M at *
  generalize t.N = z at *
  clear h hb0 hok
  go_enter Tryz.func79, Tryz.ntmps79
  go_wp2_with fail
  refine hc.mono ?_
  rintro e w1 ⟨rfl, hb1⟩
  have HB1 : Hid (Below w.heap.size w w1) := HB.out.trans (hb1.mono HB.out.size)
  clear hc hb1 HB
  go_wp2
  go_ret
  exact ⟨rfl, HB1.out⟩
set_option maxRecDepth 100000 in
set_option maxHeartbeats 800000 in
theorem least_any (t : E.Tr) (v : Value) (w : World) (h : ET w t v) (hok : E.okT t = true) : Calls Tryz.prog 82 #[v] w fun e w' => e = .returned (.int .i64 (E.low t)) ∧ Below w.heap.size w w' := by
  obtain ⟨A, n, c, rfl⟩ := E.InP.form h
  have hb0 : Below w.heap.size w (w.alloc (.cells #[.int .i64 t.N, .slice A n c] 27)) := (Below.refl _ w).alloc (Nat.le_refl _) _
  have hc := E.ends_arg (E.arg_of (E.InP.up h hb0))
  rw [E.fit_of hok] at hc
  simp only [E.endsR] at hc
  have HB := Lib.hid hb0
  unfold E.tv at *
  generalize E.low t = L at *
  generalize E.high t = M at *
  generalize t.N = z at *
  clear h hb0 hok
  go_enter Tryz.func82, Tryz.ntmps82
  go_wp2_with fail
  refine hc.mono ?_
  rintro e w1 ⟨rfl, hb1⟩
  have HB1 : Hid (Below w.heap.size w w1) := HB.out.trans (hb1.mono HB.out.size)
  clear hc hb1 HB
  go_wp2
  go_ret
  exact ⟨rfl, HB1.out⟩
end Go.Proofs.YtoaglkjpjolacaaGreatDoor.S
namespace Go.Proofs.YtoaglkjpjolacaaGreatDoor.S
open Go.RowKit
section
variable {w W W' : World} {bs bs' : List (Nat × Nat × Value)} {rs rs' : List (Nat × Nat)} {is is' : List (I.Tr × Value)} {es es' : List (E.Tr × Value)}
theorem SX.sub0 (h : SX w bs rs is es W) (h1 : ∀ b ∈ bs', b ∈ bs) (h2 : ∀ r ∈ rs', r ∈ rs) : SX w bs' rs' [] [] W := h.sub h1 h2 (fun _ h => by cases h) (fun _ h => by cases h)
/-- A variable of two cells, written anew. -/
theorem SX.set2 (h : SX w bs rs is es W) (g : Nat) (u v : Value) (hg : (g, 2) ∈ rs) (hd : ∀ b ∈ bs, b.1 ≠ g) (hr : ∀ r ∈ rs, r.1 = g → r.2 = 2) : SX w ((g, 0, u) :: (g, 1, v) :: bs) rs is es ((W.setCell ⟨g, 0, none⟩ u).setCell ⟨g, 1, none⟩ v) := by
  have h1 := h.put g 2 0 u hg ⟨by omega, .inl (by omega)⟩ (fun b hb => .inl (hd b hb)) hr
  have h2 := h1.put g 2 1 v hg ⟨by omega, .inl (by omega)⟩ (fun b hb => by
    rcases List.mem_cons.1 hb with rfl | hb
    · exact .inr (by simp)
    · exact .inl (hd b hb)) hr
  exact h2.sub (fun b hb => by simp only [List.mem_cons] at hb ⊢; rcases hb with rfl | rfl | hb; exact .inr (.inl rfl); exact .inl rfl; exact .inr (.inr hb)) (fun _ h => h) (fun _ h => h) (fun _ h => h)
theorem SX.set1 (h : SX w bs rs is es W) (g : Nat) (u : Value) (hg : (g, 1) ∈ rs) (hd : ∀ b ∈ bs, b.1 ≠ g) (hr : ∀ r ∈ rs, r.1 = g → r.2 = 1) : SX w ((g, 0, u) :: bs) rs is es (W.setCell ⟨g, 0, none⟩ u) :=
  h.put g 1 0 u hg ⟨by omega, .inl (by omega)⟩ (fun b hb => .inl (hd b hb)) hr
theorem SX.facts2 (h : SX w bs rs is es W) (g : Nat) (hg : (g, 2) ∈ rs) : ∃ u0 u1, W.cell? ⟨g, 0, none⟩ = some u0 ∧ W.cell? ⟨g, 1, none⟩ = some u1 ∧ W.frozen? ⟨g, 0, none⟩ = false ∧ W.frozen? ⟨g, 1, none⟩ = false := by
  obtain ⟨u0, k0⟩ := h.there g 2 hg 0 (by omega)
  obtain ⟨u1, k1⟩ := h.there g 2 hg 1 (by omega)
  exact ⟨u0, u1, k0, k1, h.thaw g 2 hg 0, h.thaw g 2 hg 1⟩
theorem SX.facts1 (h : SX w bs rs is es W) (g : Nat) (hg : (g, 1) ∈ rs) : ∃ u0, W.cell? ⟨g, 0, none⟩ = some u0 ∧ W.frozen? ⟨g, 0, none⟩ = false := by
  obtain ⟨u0, k0⟩ := h.there g 1 hg 0 (by omega)
  exact ⟨u0, k0, h.thaw g 1 hg 0⟩
/-- The end: two cells of the result written. -/
theorem SX.fin (h : SX w bs rs is es W) (g : Nat) (hg : (g, 2) ∈ rs) {t : E.Tr} {x : Value} (ht : ET W t x) (u v : Value) : ET ((W.setCell ⟨g, 0, none⟩ u).setCell ⟨g, 1, none⟩ v) t x ∧ Below w.heap.size w ((W.setCell ⟨g, 0, none⟩ u).setCell ⟨g, 1, none⟩ v) := by
  have h0 : SX w [] [(g, 2)] [] [(t, x)] W := ⟨by simp, fun r hr => by simp only [List.mem_singleton] at hr; subst hr; exact h.box _ hg, by simp, fun p hp => by simp only [List.mem_singleton] at hp; subst hp; exact ht, h.bel⟩
  have h1 := h0.set2 g u v (by simp) (by simp) (by simp)
  exact ⟨h1.ets (t, x) (by simp), h1.bel⟩
end
set_option maxHeartbeats 800000 in
theorem snode_any (n : Int) (x y : E.Tr) (u v : Value) (w : World) (hx : ET w x u) (hy : ET w y v) : Calls Tryz.prog 83 #[.int .i64 n, u, v] w (TreeI (.node n x y) w) := by
  obtain ⟨A1, n1, c1, rfl⟩ := E.InP.form hx
  obtain ⟨A2, n2, c2, rfl⟩ := E.InP.form hy
  have HX := Lib.hid hx
  have HY := Lib.hid hy
  clear hx hy
  generalize x.N = o1 at *
  generalize y.N = o2 at *
  unfold E.tv
  go_enter Tryz.func83, Tryz.ntmps83
  go_wp2
  refine bodyPost_ret (v := E.tv n (some ⟨w.heap.size + 1 + 1 + 1, 0, none⟩) 2 2) (by simp [results, Tryz.f83, go_sem, E.tv]) rfl ?_
  have hb := E.four_boxes w (.cells #[.int .i64 o1, .slice A1 n1 c1] 27) (.cells #[.int .i64 o2, .slice A2 n2 c2] 27) (.cells #[.int .i64 n, .slice (some ⟨w.heap.size + 1 + 1 + 1, 0, none⟩) 2 2] 27) (.cells #[.int .i64 o1, .slice A1 n1 c1, .int .i64 o2, .slice A2 n2 c2] 27)
  refine ⟨_, rfl, E.two_in (P := E.Lt w.heap.size) ?_ (HX.out.below hb) (HY.out.below hb) (fun b h => Nat.lt_of_lt_of_le h hb.size) ?_, hb⟩
  · have := heap_alloc_new (((w.alloc (.cells #[.int .i64 o1, .slice A1 n1 c1] 27)).alloc (.cells #[.int .i64 o2, .slice A2 n2 c2] 27)).alloc (.cells #[.int .i64 n, .slice (some ⟨w.heap.size + 1 + 1 + 1, 0, none⟩) 2 2] 27)) (.cells #[.int .i64 o1, .slice A1 n1 c1, .int .i64 o2, .slice A2 n2 c2] 27)
    simpa only [World.size_alloc] using this
  · show _ < _; simp

/-- A function that fills, for an identity. -/
def FillC (w : World) (i : I.Tr) (F : Value) : Prop :=
  ∃ (fn : Nat) (caps : Array Value), F = .func (.func fn) #[] caps ∧ (∀ args w, (callFunc fn args).run Tryz.prog w = .ok (.enter fn args) w) ∧
    ∀ (W : World) (e : E.Tr) (v : Value), Below w.heap.size w W → ET W e v → E.okT e = true → Calls Tryz.prog fn (#[v] ++ caps) W (TreeI (fillT i e) W)
theorem FillC.up {w w' : World} {i : I.Tr} {F : Value} (h : FillC w i F) (hb : Below w.heap.size w w') : FillC w' i F := by
  obtain ⟨fn, caps, e, hr, hc⟩ := h
  exact ⟨fn, caps, e, hr, fun W t v hb2 ht ho => hc W t v (hb.trans (hb2.mono hb.size)) ht ho⟩
theorem enter55 : ∀ (args : Array Value) (w : World), (callFunc 76 args).run Tryz.prog w = .ok (.enter 76 args) w := fun args w => by simp [go_sem]
theorem enter57 : ∀ (args : Array Value) (w : World), (callFunc 78 args).run Tryz.prog w = .ok (.enter 78 args) w := fun args w => by simp [go_sem]

set_option maxHeartbeats 800000 in
theorem fill0_any (e : E.Tr) (v : Value) (w : World) (he : ET w e v) : Calls Tryz.prog 76 #[v] w (TreeI e w) := by
  obtain ⟨A, n, c, rfl⟩ := E.InP.form he
  have HE := Lib.hid he
  clear he
  generalize e.N = z at *
  unfold E.tv
  go_enter Tryz.func76, Tryz.ntmps76
  go_wp2
  refine bodyPost_ret (v := E.tv z A n c) (by simp [results, Tryz.f76, go_sem, E.tv]) rfl ?_
  have hb : Below w.heap.size w ((w.alloc (.cells #[.int .i64 z, .slice A n c] 27)).alloc (.cells #[.int .i64 z, .slice A n c] 27)) := ((Below.refl _ w).alloc (Nat.le_refl _) _).alloc (by simp) _
  exact ⟨_, rfl, E.InP.up HE.out hb, hb⟩
set_option maxHeartbeats 800000 in
theorem fillI_any (e : E.Tr) (v : Value) (w : World) (he : ET w e v) (hok : E.okT e = true) : Calls Tryz.prog 78 #[v] w (TreeI (.leaf (E.high e)) w) := by
  have h0 := ((SX.begin w).two (.int .i64 e.N) (.slice none 0 0) 27)
  obtain ⟨A, n, c, rfl⟩ := E.InP.form he
  have HX0 := Lib.hid (((SX.begin w).two (.int .i64 e.N) (.slice A n c) 27).two (.int .i64 0) (.slice none 0 0) 27)
  have hc := most_any e (E.tv e.N A n c) _ (E.InP.up he HX0.out.bel) hok
  simp only [List.nil_append, List.cons_append, World.size_alloc] at HX0
  clear h0 he hok
  generalize E.high e = M at *
  generalize e.N = z at *
  unfold E.tv at *
  go_enter Tryz.func78, Tryz.ntmps78
  go_wp2_with fail
  refine hc.mono ?_
  rintro e w1 ⟨rfl, hb1⟩
  have HX1 := Lib.hid (HX0.out.next hb1)
  clear hb1 hc HX0
  obtain ⟨y0, k0⟩ := HX1.out.there (w.heap.size + 1) 2 (by simp) 0 (by omega)
  obtain ⟨y1, k1⟩ := HX1.out.there (w.heap.size + 1) 2 (by simp) 1 (by omega)
  have k2 := HX1.out.thaw (w.heap.size + 1) 2 (by simp) 0
  have k3 := HX1.out.thaw (w.heap.size + 1) 2 (by simp) 1
  go_wp2
  refine bodyPost_ret (v := E.tv M none 0 0) (by simp [results, Tryz.f78, go_sem, E.tv, k0, k1]) rfl ?_
  refine ⟨_, rfl, ⟨none, 0, rfl⟩, (HX1.out.bel.setCell (p := ⟨w.heap.size + 1, 0, none⟩) (by show _ ≤ _ + 1; omega) _).setCell (p := ⟨w.heap.size + 1, 1, none⟩) (by show _ ≤ _ + 1; omega) _⟩
end Go.Proofs.YtoaglkjpjolacaaGreatDoor.S
namespace Go.Proofs.YtoaglkjpjolacaaGreatDoor.S
open Go.RowKit
section
variable {w W W' : World} {bs bs' : List (Nat × Nat × Value)} {rs rs' : List (Nat × Nat)} {is is' : List (I.Tr × Value)} {es es' : List (E.Tr × Value)}
theorem SX.set4 (h : SX w bs rs is es W) (g : Nat) (o : Bool) (u : Value) (n : Int) (v : Value) (hg : (g, 4) ∈ rs) (hd : ∀ b ∈ bs, b.1 ≠ g) (hr : ∀ r ∈ rs, r.1 = g → r.2 = 4) :
    SX w ((g, 0, .bool o) :: (g, 1, u) :: (g, 2, .int .i64 n) :: (g, 3, v) :: bs) rs is es ((((W.setCell ⟨g, 0, none⟩ (.bool o)).setCell ⟨g, 1, none⟩ u).setCell ⟨g, 2, none⟩ (.int .i64 n)).setCell ⟨g, 3, none⟩ v) := by
  have h1 := h.put g 4 0 (.bool o) hg ⟨by omega, .inr ⟨rfl, fun _ => ⟨o, rfl⟩, fun h => by omega⟩⟩ (fun b hb => .inl (hd b hb)) hr
  have h2 := h1.put g 4 1 u hg ⟨by omega, .inr ⟨rfl, fun h => by omega, fun h => by omega⟩⟩ (fun b hb => by
    simp only [List.mem_cons] at hb
    rcases hb with rfl | hb
    · exact .inr (by simp)
    · exact .inl (hd b hb)) hr
  have h3 := h2.put g 4 2 (.int .i64 n) hg ⟨by omega, .inr ⟨rfl, fun h => by omega, fun _ => ⟨n, rfl⟩⟩⟩ (fun b hb => by
    simp only [List.mem_cons] at hb
    rcases hb with rfl | rfl | hb
    · exact .inr (by simp)
    · exact .inr (by simp)
    · exact .inl (hd b hb)) hr
  have h4 := h3.put g 4 3 v hg ⟨by omega, .inr ⟨rfl, fun h => by omega, fun h => by omega⟩⟩ (fun b hb => by
    simp only [List.mem_cons] at hb
    rcases hb with rfl | rfl | rfl | hb
    · exact .inr (by simp)
    · exact .inr (by simp)
    · exact .inr (by simp)
    · exact .inl (hd b hb)) hr
  exact h4.sub (fun b hb => by
    simp only [List.mem_cons] at hb ⊢
    rcases hb with rfl | rfl | rfl | rfl | hb
    · exact .inr (.inr (.inr (.inl rfl)))
    · exact .inr (.inr (.inl rfl))
    · exact .inr (.inl rfl)
    · exact .inl rfl
    · exact .inr (.inr (.inr (.inr hb)))) (fun _ h => h) (fun _ h => h) (fun _ h => h)
theorem SX.facts4 (h : SX w bs rs is es W) (g : Nat) (hg : (g, 4) ∈ rs) : ∃ u0 u1 u2 u3, (W.cell? ⟨g, 0, none⟩ = some u0 ∧ W.cell? ⟨g, 1, none⟩ = some u1 ∧ W.cell? ⟨g, 2, none⟩ = some u2 ∧ W.cell? ⟨g, 3, none⟩ = some u3) ∧ W.frozen? ⟨g, 0, none⟩ = false ∧ W.frozen? ⟨g, 1, none⟩ = false ∧ W.frozen? ⟨g, 2, none⟩ = false ∧ W.frozen? ⟨g, 3, none⟩ = false := by
  obtain ⟨u0, k0⟩ := h.there g 4 hg 0 (by omega)
  obtain ⟨u1, k1⟩ := h.there g 4 hg 1 (by omega)
  obtain ⟨u2, k2⟩ := h.there g 4 hg 2 (by omega)
  obtain ⟨u3, k3⟩ := h.there g 4 hg 3 (by omega)
  exact ⟨u0, u1, u2, u3, ⟨k0, k1, k2, k3⟩, h.thaw g 4 hg 0, h.thaw g 4 hg 1, h.thaw g 4 hg 2, h.thaw g 4 hg 3⟩
end
/-- A stamp as a value. -/
def sv (o : Bool) (A : Option Addr) (n c : Nat) (z : Int) (A' : Option Addr) (n' c' : Nat) : Value := .agg #[.bool o, .slice A n c, .int .i64 z, .slice A' n' c']
/-- A stamp that came in. -/
def SArg (w : World) (S : Option I.Tr) (T : Option E.Tr) (v : Value) : Prop := ∃ o A n c z A' n' c', v = sv o A n c z A' n' c' ∧ I.Arg w S (I.tv o A n c) ∧ E.Arg w T (E.tv z A' n' c')
theorem SArg.up {w w' : World} {S : Option I.Tr} {T : Option E.Tr} {v : Value} (h : SArg w S T v) (hb : Below w.heap.size w w') : SArg w' S T v := by
  obtain ⟨o, A, n, c, z, A', n', c', e, h1, h2⟩ := h
  exact ⟨o, A, n, c, z, A', n', c', e, h1.up hb, h2.up hb⟩
/-- A stamp that was answered. -/
def SIn (w : World) (i : I.Tr) (e : E.Tr) (v : Value) : Prop := ∃ o A n c A' n' c', v = sv o A n c e.N A' n' c' ∧ IT w i (I.tv o A n c) ∧ ET w e (E.tv e.N A' n' c')
theorem SIn.up {w w' : World} {i : I.Tr} {e : E.Tr} {v : Value} (h : SIn w i e v) (hb : Below w.heap.size w w') : SIn w' i e v := by
  obtain ⟨o, A, n, c, A', n', c', e, h1, h2⟩ := h
  exact ⟨o, A, n, c, A', n', c', e, I.InT.up h1 hb, E.InP.up h2 hb⟩
theorem SIn.arg {w : World} {i : I.Tr} {e : E.Tr} {v : Value} (h : SIn w i e v) : SArg w (I.fit i) (E.fit e) v := by
  obtain ⟨o, A, n, c, A', n', c', e, h1, h2⟩ := h
  exact ⟨o, A, n, c, _, A', n', c', e, I.arg_of h1, E.arg_of h2⟩
/-- The zero stamp. -/
def zeroS : I.Tr × E.Tr := (.leaf false, .leaf 0)
theorem SIn.zero (w : World) : SIn w (.leaf false) (.leaf 0) (sv false none 0 0 0 none 0 0) := ⟨false, none, 0, 0, none, 0, 0, rfl, ⟨none, 0, rfl⟩, ⟨none, 0, rfl⟩⟩
def AnsS (r : (I.Tr × E.Tr) × Int) (w : World) (e : Ending) (w' : World) : Prop := ∃ v, e = .returned (.tuple #[v, .int .i64 r.2]) ∧ SIn w' r.1.1 r.1.2 v ∧ Below w.heap.size w w'
def AnsS2 (r : (I.Tr × E.Tr) × (I.Tr × E.Tr) × Int) (w : World) (e : Ending) (w' : World) : Prop := ∃ u v, e = .returned (.tuple #[u, v, .int .i64 r.2.2]) ∧ SIn w' r.1.1 r.1.2 u ∧ SIn w' r.2.1.1 r.2.1.2 v ∧ Below w.heap.size w w'

def both (a b : Bool) : Bool := a && b
set_option maxRecDepth 100000 in
set_option maxHeartbeats 1600000 in
theorem right_any {w : World} {S : Option I.Tr} {T : Option E.Tr} {v : Value} (h : SArg w S T v) : Calls Tryz.prog 30 #[v] w fun e w' => e = .returned (.bool (S.isSome && T.isSome)) ∧ Below w.heap.size w w' := by
  obtain ⟨o, A, n, c, z, A', n', c', rfl, h1, h2⟩ := h
  have HX0 := Lib.hid ((SX.begin w).four o (.slice A n c) z (.slice A' n' c') 29)
  simp only [List.nil_append] at HX0
  have H2 := Lib.hid h2
  have hc := I.right_arg (h1.up HX0.out.bel)
  obtain ⟨a, ha⟩ : ∃ a, S.isSome = a := ⟨_, rfl⟩
  rw [ha] at hc
  have HA := Lib.hid ha
  clear h1 h2 ha
  unfold I.tv at hc
  unfold sv
  go_enter Tryz.func30, Tryz.ntmps30
  go_wp2_with fail
  refine hc.mono ?_
  rintro e w1 ⟨rfl, hb1⟩
  have HX1 := Lib.hid (HX0.out.next hb1)
  clear hc hb1 HX0
  have f := HX1.out.at0
  simp only [List.mem_cons, List.not_mem_nil, or_false, forall_eq_or_imp, forall_eq] at f
  obtain ⟨p0, p1, p2, p3⟩ := f
  have hc := E.right_arg (H2.out.up HX1.out.bel)
  obtain ⟨b, hb⟩ : ∃ b, T.isSome = b := ⟨_, rfl⟩
  rw [hb] at hc
  have HB := Lib.hid hb
  clear hb
  unfold E.tv at hc
  cases a with
  | false =>
    clear hc
    go_wp2
    go_ret
    exact ⟨E.ret_bool (by rw [HA.out]; simp), HX1.out.bel⟩
  | true =>
    go_wp2_with fail
    refine hc.mono ?_
    rintro e w2 ⟨rfl, hb2⟩
    have HX2 := Lib.hid (HX1.out.next hb2)
    clear hc hb2 HX1 p0 p1 p2 p3
    go_wp2
    go_ret
    exact ⟨E.ret_bool (by rw [HA.out, HB.out]; simp), HX2.out.bel⟩
set_option maxRecDepth 100000 in
set_option maxHeartbeats 1600000 in
theorem rright_any {w : World} {S : Option I.Tr} {T : Option E.Tr} {v : Value} (h : SArg w S T v) : Calls Tryz.prog 32 #[v] w fun e w' => e = .returned (.bool (S.isSome && T.isSome)) ∧ Below w.heap.size w w' := by
  obtain ⟨o, A, n, c, z, A', n', c', rfl, h1, h2⟩ := h
  have HX0 := Lib.hid ((SX.begin w).four o (.slice A n c) z (.slice A' n' c') 29)
  simp only [List.nil_append] at HX0
  have H2 := Lib.hid h2
  have hc := I.rright_arg (h1.up HX0.out.bel)
  obtain ⟨a, ha⟩ : ∃ a, S.isSome = a := ⟨_, rfl⟩
  rw [ha] at hc
  have HA := Lib.hid ha
  clear h1 h2 ha
  unfold I.tv at hc
  unfold sv
  go_enter Tryz.func32, Tryz.ntmps32
  go_wp2_with fail
  refine hc.mono ?_
  rintro e w1 ⟨rfl, hb1⟩
  have HX1 := Lib.hid (HX0.out.next hb1)
  clear hc hb1 HX0
  have f := HX1.out.at0
  simp only [List.mem_cons, List.not_mem_nil, or_false, forall_eq_or_imp, forall_eq] at f
  obtain ⟨p0, p1, p2, p3⟩ := f
  have hc := E.rright_arg (H2.out.up HX1.out.bel)
  obtain ⟨b, hb⟩ : ∃ b, T.isSome = b := ⟨_, rfl⟩
  rw [hb] at hc
  have HB := Lib.hid hb
  clear hb
  unfold E.tv at hc
  go_wp2_with fail
  refine hc.mono ?_
  rintro e w2 ⟨rfl, hb2⟩
  have HX2 := Lib.hid (HX1.out.next hb2)
  clear hc hb2 HX1 p0 p1 p2 p3
  cases a with
  | true => go_wp2; go_ret; exact ⟨E.ret_bool (by rw [HA.out, HB.out]; simp), HX2.out.bel⟩
  | false => go_wp2; go_ret; exact ⟨E.ret_bool (by rw [HA.out, HB.out]; simp), HX2.out.bel⟩
set_option maxRecDepth 100000 in
set_option maxHeartbeats 1600000 in
theorem rnorm_any {w : World} {i : I.Tr} {x : E.Tr} {v : Value} (h : SArg w (some i) (some x) v) : Calls Tryz.prog 39 #[v] w fun e w' => ∃ u, e = .returned u ∧ SIn w' i.norm x.norm u ∧ Below w.heap.size w w' := by
  obtain ⟨o, A, n, c, z, A', n', c', rfl, h1, h2⟩ := h
  have HX0 := Lib.hid (((SX.begin w).four o (.slice A n c) z (.slice A' n' c') 29).four false (.slice none 0 0) 0 (.slice none 0 0) 29)
  simp only [List.nil_append, List.cons_append, World.size_alloc] at HX0
  have H2 := Lib.hid h2
  have hc := I.rnorm_arg (h1.up HX0.out.bel)
  clear h1 h2
  unfold I.tv at hc
  unfold sv
  go_enter Tryz.func39, Tryz.ntmps39
  go_wp2_with fail
  refine hc.mono ?_
  rintro e w1 ⟨v1, rfl, ht1, hb1⟩
  obtain ⟨o1, A1, n1, c1, rfl⟩ := ht1.form
  simp only [I.normR] at ht1
  have HX1 := Lib.hid (((HX0.out.next hb1).i ht1).two (.bool o1) (.slice A1 n1 c1) 24)
  simp only [List.nil_append, List.cons_append] at HX1
  clear hc hb1 ht1 HX0
  unfold I.tv
  go_upto_region 2 with fail
  generalize w1.alloc (.cells #[.bool o1, .slice A1 n1 c1] 24) = w2 at *
  have f := HX1.out.at0
  simp only [List.mem_cons, List.not_mem_nil, or_false, forall_eq_or_imp, forall_eq] at f
  obtain ⟨p0, p1, p2, p3, p4, p5, p6, p7, p8, p9⟩ := f
  have hc := E.rnorm_arg (H2.out.up HX1.out.bel)
  unfold E.tv at hc
  go_wp2_with fail
  refine hc.mono ?_
  rintro e w3 ⟨v3, rfl, ht3, hb3⟩
  obtain ⟨A3, n3, c3, rfl⟩ := E.InP.form ht3
  simp only [E.normR] at ht3 ⊢
  have ht3' := E.InP.old ht3
  obtain ⟨z3, hz3⟩ : ∃ z3, x.norm.N = z3 := ⟨_, rfl⟩
  rw [hz3] at ht3' ⊢
  have HX3 := Lib.hid (((HX1.out.next hb3).e ht3').two (.int .i64 z3) (.slice A3 n3 c3) 27)
  simp only [List.nil_append, List.cons_append] at HX3
  clear hc hb3 ht3 ht3' HX1 p0 p1 p2 p3 p4 p5 p6 p7 p8 p9
  unfold E.tv
  go_upto_region 3 with fail
  generalize w3.alloc (.cells #[.int .i64 z3, .slice A3 n3 c3] 27) = w4 at *
  have f := HX3.out.at0
  simp only [List.mem_cons, List.not_mem_nil, or_false, forall_eq_or_imp, forall_eq] at f
  obtain ⟨p0, p1, p2, p3, p4, p5, p6, p7, p8, p9, p10, p11⟩ := f
  obtain ⟨y0, y1, y2, y3, ⟨q0, q1, q2, q3⟩, r0, r1, r2, r3⟩ := HX3.out.facts4 (w.heap.size + 1) (by simp)
  have HX4 := Lib.hid ((HX3.out.sub (bs' := []) (rs' := [(w.heap.size + 1, 4)]) (is' := [(i.norm, I.tv o1 A1 n1 c1)]) (es' := [(x.norm, E.tv z3 A3 n3 c3)]) (by simp) (by simp) (by simp) (by simp)).set4 (w.heap.size + 1) o1 (.slice A1 n1 c1) z3 (.slice A3 n3 c3) (by simp) (by simp) (by simp))
  clear HX3
  go_wp2
  have f := HX4.out.at0
  simp only [List.mem_cons, List.not_mem_nil, or_false, forall_eq_or_imp, forall_eq] at f
  obtain ⟨f0, f1, f2, f3⟩ := f
  refine bodyPost_ret (v := sv o1 A1 n1 c1 z3 A3 n3 c3) (by simp [results, Tryz.f39, go_sem, sv, f0, f1, f2, f3]) rfl ?_
  refine ⟨_, rfl, ⟨o1, A1, n1, c1, A3, n3, c3, by rw [hz3], HX4.out.iget (by simp), by rw [hz3]; exact HX4.out.eget (by simp)⟩, HX4.out.bel⟩
set_option maxHeartbeats 800000 in
theorem seed_any (w : World) : Calls Tryz.prog 22 #[] w fun e w' => e = .returned (sv true none 0 0 0 none 0 0) ∧ Below w.heap.size w w' := by
  go_enter Tryz.func22, Tryz.ntmps22
  go_wp2
  refine bodyPost_ret (v := sv true none 0 0 0 none 0 0) (by simp [results, Tryz.f22, go_sem, sv]) rfl ?_
  exact ⟨rfl, (Below.refl _ w).alloc (Nat.le_refl _) _⟩
set_option maxRecDepth 100000 in
set_option maxHeartbeats 1600000 in
theorem equal_any {w : World} {i j : I.Tr} {x y : E.Tr} {u v : Value} (h : SIn w i x u) (k : SIn w j y v) : Calls Tryz.prog 10 #[u, v] w fun e w' => e = .returned (.bool (I.eqT i j && E.eqT x y)) ∧ Below w.heap.size w w' := by
  obtain ⟨o, A, n, c, A', n', c', rfl, h1, h2⟩ := h
  obtain ⟨p, B, m, d, B', m', d', rfl, k1, k2⟩ := k
  generalize x.N = z at *
  generalize y.N = t at *
  have HX0 := Lib.hid (((((((SX.begin w).i h1).i k1).e h2).e k2).four o (.slice A n c) z (.slice A' n' c') 29).four p (.slice B m d) t (.slice B' m' d') 29)
  simp only [List.nil_append, List.cons_append, World.size_alloc] at HX0
  have hc := I.equal_any i j _ _ _ (HX0.out.iget (t := i) (v := I.tv o A n c) (by simp)) (HX0.out.iget (t := j) (v := I.tv p B m d) (by simp))
  clear h1 h2 k1 k2
  unfold I.tv at hc
  unfold sv
  obtain ⟨a, ha⟩ : ∃ a, I.eqT i j = a := ⟨_, rfl⟩
  rw [ha] at hc
  have HEA := Lib.hid ha
  clear ha
  go_enter Tryz.func10, Tryz.ntmps10
  go_wp2_with fail
  refine hc.mono ?_
  rintro e w1 ⟨rfl, hb1⟩
  have HX1 := Lib.hid (HX0.out.next hb1)
  clear hc hb1 HX0
  have f := HX1.out.at0
  simp only [List.mem_cons, List.not_mem_nil, or_false, forall_eq_or_imp, forall_eq] at f
  obtain ⟨p0, p1, p2, p3, p4, p5, p6, p7⟩ := f
  have hc := E.equal_any x y _ _ _ _ w1 (HX1.out.eget (t := x) (v := E.tv z A' n' c') (by simp)) (HX1.out.eget (t := y) (v := E.tv t B' m' d') (by simp))
  unfold E.tv at hc
  obtain ⟨b, hb⟩ : ∃ b, E.eqT x y = b := ⟨_, rfl⟩
  rw [hb] at hc
  have HEB := Lib.hid hb
  clear hb
  go_wp2_with fail
  refine hc.mono ?_
  rintro e w2 ⟨rfl, hb2⟩
  have HB := Lib.hid (HX1.out.next hb2).bel
  clear hc hb2 HX1 p0 p1 p2 p3 p4 p5 p6 p7
  cases a with
  | true => go_wp2; go_ret; exact ⟨E.ret_bool (by rw [HEA.out, HEB.out]; simp), HB.out⟩
  | false => go_wp2; go_ret; exact ⟨E.ret_bool (by rw [HEA.out, HEB.out]; simp), HB.out⟩
set_option maxRecDepth 100000 in
set_option maxHeartbeats 1600000 in
theorem leq_any {w : World} {S S' : Option I.Tr} {T T' : Option E.Tr} {u v : Value} (h : SArg w S T u) (k : SArg w S' T' v) : Calls Tryz.prog 11 #[u, v] w fun e w' => e = .returned (.bool (S.isSome && S'.isSome && E.leqO T T')) ∧ Below w.heap.size w w' := by
  have HH := Lib.hid h
  have HK := Lib.hid k
  obtain ⟨o, A, n, c, z, A', n', c', rfl, h1, h2⟩ := h
  obtain ⟨p, B, m, d, t, B', m', d', rfl, k1, k2⟩ := k
  have HX0 := Lib.hid (((SX.begin w).four o (.slice A n c) z (.slice A' n' c') 29).four p (.slice B m d) t (.slice B' m' d') 29)
  simp only [List.nil_append, List.cons_append, World.size_alloc] at HX0
  have H2 := Lib.hid h2
  have K2 := Lib.hid k2
  have hc := right_any (HH.out.up HX0.out.bel)
  have HN : Hid ((S.isSome && T.isSome) = false → (S.isSome && S'.isSome && E.leqO T T') = false) := by
    intro h; cases S <;> cases S' <;> cases T <;> cases T' <;> simp [E.leqO] at h ⊢
  have HN' : Hid ((S'.isSome && T'.isSome) = false → (S.isSome && S'.isSome && E.leqO T T') = false) := by
    intro h; cases S <;> cases S' <;> cases T <;> cases T' <;> simp [E.leqO] at h ⊢
  have HY : Hid ((S.isSome && T.isSome) = true → (S'.isSome && T'.isSome) = true → (S.isSome && S'.isSome && E.leqO T T') = E.leqO T T') := by
    intro h h'; cases S <;> cases S' <;> simp at h h' ⊢
  clear h1 h2 k1 k2
  unfold sv at hc ⊢
  obtain ⟨a, ha⟩ : ∃ a, (S.isSome && T.isSome) = a := ⟨_, rfl⟩
  rw [ha] at hc
  have HA := Lib.hid ha
  clear ha
  go_enter Tryz.func11, Tryz.ntmps11
  go_wp2_with fail
  refine hc.mono ?_
  rintro e w1 ⟨rfl, hb1⟩
  have HX1 := Lib.hid (HX0.out.next hb1)
  clear hc hb1 HX0
  cases a with
  | false =>
    go_wp2
    go_ret
    exact ⟨E.ret_bool (HN.out HA.out).symm, HX1.out.bel⟩
  | true =>
    have f := HX1.out.at0
    simp only [List.mem_cons, List.not_mem_nil, or_false, forall_eq_or_imp, forall_eq] at f
    obtain ⟨p0, p1, p2, p3, p4, p5, p6, p7⟩ := f
    have hc := right_any (HK.out.up HX1.out.bel)
    obtain ⟨b, hb⟩ : ∃ b, (S'.isSome && T'.isSome) = b := ⟨_, rfl⟩
    rw [hb] at hc
    have HB := Lib.hid hb
    clear hb
    unfold sv at hc
    go_wp2_with fail
    refine hc.mono ?_
    rintro e w2 ⟨rfl, hb2⟩
    have HX2 := Lib.hid (HX1.out.next hb2)
    clear hc hb2 HX1 p0 p1 p2 p3 p4 p5 p6 p7
    cases b with
    | false =>
      go_wp2
      go_ret
      exact ⟨E.ret_bool (HN'.out HB.out).symm, HX2.out.bel⟩
    | true =>
      have f := HX2.out.at0
      simp only [List.mem_cons, List.not_mem_nil, or_false, forall_eq_or_imp, forall_eq] at f
      obtain ⟨p0, p1, p2, p3, p4, p5, p6, p7⟩ := f
      have hc := E.leq_arg (H2.out.up HX2.out.bel) (K2.out.up HX2.out.bel)
      obtain ⟨r, hr⟩ : ∃ r, E.leqO T T' = r := ⟨_, rfl⟩
      have HYE := Lib.hid ((HY.out HA.out HB.out).trans hr)
      rw [hr] at hc
      unfold E.tv at hc
      go_wp2_with fail
      refine hc.mono ?_
      rintro e w3 ⟨rfl, hb3⟩
      have HX3 := Lib.hid (HX2.out.next hb3)
      clear hc hb3 HX2 p0 p1 p2 p3 p4 p5 p6 p7
      go_wp2
      go_ret
      exact ⟨E.ret_bool HYE.out.symm, HX3.out.bel⟩
end Go.Proofs.YtoaglkjpjolacaaGreatDoor.S
