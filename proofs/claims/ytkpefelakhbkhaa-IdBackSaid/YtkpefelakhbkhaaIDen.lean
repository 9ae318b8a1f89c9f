/-
  What trees denote, path by path; the facts on normal forms, sums and splits that follow. No program here.
-/
import Derived.Test.YtkpefelakhbkhaaIPair
import Derived.Test.YtkpefelakhbkhaaISplit
import Derived.Test.YtkpefelakhbkhaaISMath2
namespace Go.Proofs.Ytkpefelakhbkhaa.I

def tl (f : Nat → Bool) : Nat → Bool := fun n => f (n + 1)
def ct (b : Bool) (f : Nat → Bool) : Nat → Bool := fun n => match n with | 0 => b | n + 1 => f n
theorem tl_ct (b : Bool) (f : Nat → Bool) : tl (ct b f) = f := rfl
theorem ct_zero (b : Bool) (f : Nat → Bool) : ct b f 0 = b := rfl
/-- Is the point that a path leads to in the tree's part? -/
def den : Tr → (Nat → Bool) → Bool
  | .leaf o, _ => o
  | .node l r, f => if f 0 = true then den r (tl f) else den l (tl f)
theorem den_false (l r : Tr) (f : Nat → Bool) : den (.node l r) (ct false f) = den l f := rfl
theorem den_true (l r : Tr) (f : Nat → Bool) : den (.node l r) (ct true f) = den r f := rfl
theorem den_mk2 (a b : Tr) (f : Nat → Bool) : den (a.mk2 b) f = den (.node a b) f := by
  cases a with
  | leaf x =>
    cases b with
    | leaf y =>
      simp only [Tr.mk2]
      split
      · rename_i h; subst h; simp [den]
      · rfl
    | node _ _ => rfl
  | node _ _ => cases b <;> rfl
theorem den_norm : ∀ (t : Tr) (f : Nat → Bool), den t.norm f = den t f
  | .leaf o, f => rfl
  | .node l r, f => by rw [Tr.norm, den_mk2]; simp only [den]; rw [den_norm l, den_norm r]
theorem mk2_inj {a b c d : Tr} (h : a.mk2 b = c.mk2 d) : a = c ∧ b = d := by
  have two : ∀ {a b : Tr}, (∃ o, a.mk2 b = .leaf o ∧ a = .leaf o ∧ b = .leaf o) ∨ a.mk2 b = .node a b := by
    intro a b
    cases a with
    | leaf x =>
      cases b with
      | leaf y =>
        by_cases e : x = y
        · subst e; exact .inl ⟨x, by simp [Tr.mk2], rfl, rfl⟩
        · exact .inr (by simp [Tr.mk2, e])
      | node _ _ => exact .inr rfl
    | node _ _ => cases b <;> exact .inr rfl
  rcases two (a := a) (b := b) with ⟨o, h1, rfl, rfl⟩ | h1
  · obtain ⟨rfl, rfl⟩ := Tr.mk2_leaf (h.symm.trans h1); exact ⟨rfl, rfl⟩
  · rcases two (a := c) (b := d) with ⟨o, h2, rfl, rfl⟩ | h2
    · obtain ⟨rfl, rfl⟩ := Tr.mk2_leaf (h.trans h2); exact ⟨rfl, rfl⟩
    · rw [h1, h2] at h; injection h with h3 h4; exact ⟨h3, h4⟩
theorem norm_norm : ∀ t : Tr, t.norm.norm = t.norm
  | .leaf _ => rfl
  | .node l r => by
    have hl := norm_norm l
    have hr := norm_norm r
    rw [Tr.norm]
    generalize l.norm = a at *
    generalize r.norm = b at *
    have key : (a.mk2 b).norm = a.norm.mk2 b.norm := by
      cases a with
      | leaf x =>
        cases b with
        | leaf y =>
          by_cases e : x = y
          · subst e; simp [Tr.mk2, Tr.norm]
          · simp [Tr.mk2, Tr.norm, e]
        | node _ _ => rfl
      | node _ _ => cases b <;> rfl
    rw [key, hl, hr]
theorem den_all (t : Tr) (o : Bool) : (∀ f, den t f = o) ↔ t.norm = .leaf o := by
  constructor
  · induction t with
    | leaf x => intro h; have := h (fun _ => false); simp only [den] at this; rw [Tr.norm, this]
    | node l r ihl ihr =>
      intro h
      rw [Tr.norm, ihl fun f => (den_false l r f).symm.trans (h _), ihr fun f => (den_true l r f).symm.trans (h _), Tr.mk2_same]
  · intro h f
    rw [← den_norm, h]; rfl
theorem norm_of_den : ∀ (a b : Tr), (∀ f, den a f = den b f) → a.norm = b.norm
  | .leaf o, b, h => ((den_all b o).1 fun f => (h f).symm).symm
  | .node l r, .leaf o, h => (den_all (.node l r) o).1 fun f => h f
  | .node l r, .node c d, h => by
    rw [Tr.norm, Tr.norm, norm_of_den l c fun f => (h (ct false f)), norm_of_den r d fun f => (h (ct true f))]
theorem norm_iff_den (a b : Tr) : a.norm = b.norm ↔ ∀ f, den a f = den b f :=
  ⟨fun h f => by rw [← den_norm a, h, den_norm], norm_of_den a b⟩
theorem onlyT_den (b : Bool) (t : Tr) : onlyT b t = true ↔ ∀ f, den t f = b := by rw [onlyT_norm, eqT_iff, den_all]
theorem sameB_norm : ∀ (a b : Tr), sameB a b = eqT a.norm b.norm
  | .leaf o, b => by
    rw [sameB, onlyT_norm, Bool.eq_iff_iff, eqT_iff, eqT_iff]
    exact eq_comm
  | .node l r, .leaf o => by rw [sameB, onlyT_norm]; rfl
  | .node l r, .node c d => by
    rw [sameB, sameB_norm l c, sameB_norm r d, Bool.eq_iff_iff, Bool.and_eq_true_iff, eqT_iff, eqT_iff, eqT_iff, Tr.norm, Tr.norm]
    constructor
    · rintro ⟨h1, h2⟩; rw [h1, h2]
    · exact mk2_inj
theorem den_sum : ∀ (a b : Tr) (f : Nat → Bool), den (sumT a b) f = (den a f || den b f)
  | .leaf false, b, f => by cases b <;> simp [sumT, den]
  | .leaf true, b, f => by simp [sumT, den]
  | .node l r, .leaf false, f => by simp [sumT, den]
  | .node l r, .leaf true, f => by simp [sumT, den]
  | .node l r, .node c d, f => by
    simp only [sumT, den]
    split
    · exact den_sum r d (tl f)
    · exact den_sum l c (tl f)
theorem not_only (t : Tr) : (!(eqT t.norm (.leaf false))) = true ↔ ∃ f, den t f = true := by
  rw [← onlyT_norm]
  constructor
  · intro h
    refine Classical.byContradiction fun hn => ?_
    rw [(onlyT_den false t).2 fun f => by cases e : den t f; rfl; exact absurd ⟨f, e⟩ hn] at h
    cases h
  · rintro ⟨f, hf⟩
    cases e : onlyT false t with
    | false => rfl
    | true => rw [(onlyT_den false t).1 e f] at hf; cases hf
theorem both_den : ∀ (a b : Tr), bothT a b = true ↔ ∃ f, den a f = true ∧ den b f = true
  | .leaf false, b => by simp [bothT, den]
  | .leaf true, b => by
    rw [bothT, not_only]
    exact ⟨fun ⟨f, h⟩ => ⟨f, rfl, h⟩, fun ⟨f, _, h⟩ => ⟨f, h⟩⟩
  | .node l r, .leaf o => by
    rw [bothT, Bool.and_eq_true_iff, not_only]
    exact ⟨fun ⟨h, f, h2⟩ => ⟨f, h2, h⟩, fun ⟨f, h2, h⟩ => ⟨h, f, h2⟩⟩
  | .node l r, .node c d => by
    rw [bothT, Bool.or_eq_true_iff, both_den l c, both_den r d]
    constructor
    · rintro (⟨f, h1, h2⟩ | ⟨f, h1, h2⟩)
      · exact ⟨ct false f, h1, h2⟩
      · exact ⟨ct true f, h1, h2⟩
    · rintro ⟨f, h1, h2⟩
      simp only [den] at h1 h2
      by_cases e : f 0 = true
      · rw [if_pos e] at h1 h2; exact .inr ⟨_, h1, h2⟩
      · rw [if_neg e] at h1 h2; exact .inl ⟨_, h1, h2⟩
theorem both_false (a b : Tr) : bothT a b = false ↔ ∀ f, den a f = true → den b f = false := by
  constructor
  · intro h f h1
    cases e : den b f with
    | false => rfl
    | true => rw [(both_den a b).2 ⟨f, h1, e⟩] at h; cases h
  · intro h
    cases e : bothT a b with
    | false => rfl
    | true => obtain ⟨f, h1, h2⟩ := (both_den a b).1 e; rw [h f h1] at h2; cases h2
theorem both_norm_l (a b : Tr) : bothT a.norm b = bothT a b := by
  rw [Bool.eq_iff_iff, both_den, both_den]; simp only [den_norm]
theorem both_norm_r (a b : Tr) : bothT a b.norm = bothT a b := by
  rw [Bool.eq_iff_iff, both_den, both_den]; simp only [den_norm]
theorem both_comm (a b : Tr) : bothT a b = bothT b a := by
  rw [Bool.eq_iff_iff, both_den, both_den]
  exact ⟨fun ⟨f, h⟩ => ⟨f, h.2, h.1⟩, fun ⟨f, h⟩ => ⟨f, h.2, h.1⟩⟩
theorem both_sum (a b c : Tr) : bothT (sumT a b) c = (bothT a c || bothT b c) := by
  rw [Bool.eq_iff_iff, Bool.or_eq_true_iff, both_den, both_den, both_den]
  constructor
  · rintro ⟨f, h1, h2⟩
    rw [den_sum, Bool.or_eq_true_iff] at h1
    rcases h1 with h1 | h1
    · exact .inl ⟨f, h1, h2⟩
    · exact .inr ⟨f, h1, h2⟩
  · rintro (⟨f, h1, h2⟩ | ⟨f, h1, h2⟩)
    · exact ⟨f, by rw [den_sum, h1]; rfl, h2⟩
    · exact ⟨f, by rw [den_sum, h1]; simp, h2⟩
theorem sum_comm (a b : Tr) : (sumT a b).norm = (sumT b a).norm := (norm_iff_den _ _).2 fun f => by rw [den_sum, den_sum, Bool.or_comm]
theorem sum_assoc (a b c : Tr) : (sumT (sumT a b).norm c).norm = (sumT a (sumT b c).norm).norm := (norm_iff_den _ _).2 fun f => by
  rw [den_sum, den_sum, den_norm, den_norm, den_sum, den_sum, Bool.or_assoc]
/-- A node's split. -/
theorem split_cases (x y : Tr) : (x = .leaf false ∧ splitT (.node x y) = (.node (.leaf false) (splitT y).1, .node (.leaf false) (splitT y).2)) ∨
    (x ≠ .leaf false ∧ y = .leaf false ∧ splitT (.node x y) = (.node (splitT x).1 (.leaf false), .node (splitT x).2 (.leaf false))) ∨
    (x ≠ .leaf false ∧ y ≠ .leaf false ∧ splitT (.node x y) = (.node x (.leaf false), .node (.leaf false) y)) := by
  cases x with
  | leaf o =>
    cases o
    · exact .inl ⟨rfl, by simp [splitT]⟩
    · cases y with
      | leaf q =>
        cases q
        · exact .inr (.inl ⟨by simp, rfl, by simp [splitT]⟩)
        · exact .inr (.inr ⟨by simp, by simp, by simp [splitT]⟩)
      | node _ _ => exact .inr (.inr ⟨by simp, by simp, by simp [splitT]⟩)
  | node _ _ =>
    cases y with
    | leaf q =>
      cases q
      · exact .inr (.inl ⟨by simp, rfl, by simp [splitT]⟩)
      · exact .inr (.inr ⟨by simp, by simp, by simp [splitT]⟩)
    | node _ _ => exact .inr (.inr ⟨by simp, by simp, by simp [splitT]⟩)
/-- A split's parts. -/
theorem split_or : ∀ (t : Tr) (f : Nat → Bool), (den (splitT t).1 f || den (splitT t).2 f) = den t f ∧ (den (splitT t).1 f && den (splitT t).2 f) = false := by
  intro t
  induction t with
  | leaf o => intro f; cases o <;> simp only [splitT, den] <;> cases f 0 <;> simp
  | node x y ihx ihy =>
    intro f
    have h1 := ihx (tl f)
    have h2 := ihy (tl f)
    rcases split_cases x y with ⟨rfl, e⟩ | ⟨_, rfl, e⟩ | ⟨_, _, e⟩
    · rw [e]
      simp only [den]
      cases f 0
      · simp
      · simpa using h2
    · rw [e]
      simp only [den]
      cases f 0
      · simpa using h1
      · simp
    · rw [e]
      simp only [den]
      cases f 0 <;> simp
theorem split_sum (t : Tr) : (sumT (splitT t).1 (splitT t).2).norm = t.norm := (norm_iff_den _ _).2 fun f => by rw [den_sum]; exact (split_or t f).1
theorem split_apart (t : Tr) : bothT (splitT t).1 (splitT t).2 = false := (both_false _ _).2 fun f h => by
  have := (split_or t f).2
  rw [h] at this; simpa using this
/-- A normal form's kids are normal forms. -/
theorem norm_kids {x y : Tr} (h : (Tr.node x y).norm = .node x y) : x.norm = x ∧ y.norm = y := by
  rw [Tr.norm] at h
  generalize x.norm = a at *
  generalize y.norm = b at *
  cases a with
  | leaf p =>
    cases b with
    | leaf q =>
      simp only [Tr.mk2] at h
      split at h
      · cases h
      · injection h with h1 h2; exact ⟨h1, h2⟩
    | node _ _ => simp only [Tr.mk2] at h; injection h with h1 h2; exact ⟨h1, h2⟩
  | node _ _ => cases b <;> (simp only [Tr.mk2] at h; injection h with h1 h2; exact ⟨h1, h2⟩)
theorem split_none : ∀ (t : Tr), t.norm = t → ((splitT t).1.norm = .leaf false ↔ t = .leaf false) ∧ ((splitT t).2.norm = .leaf false ↔ t = .leaf false) := by
  intro t
  have nl : ∀ a b : Tr, (Tr.node a b).norm = .leaf false ↔ a.norm = .leaf false ∧ b.norm = .leaf false := fun a b => by
    rw [Tr.norm]
    exact ⟨Tr.mk2_leaf, fun ⟨h1, h2⟩ => by rw [h1, h2, Tr.mk2_same]⟩
  induction t with
  | leaf o =>
    intro _
    cases o <;> simp [splitT, Tr.norm, Tr.mk2]
  | node x y ihx ihy =>
    intro h
    obtain ⟨hx, hy⟩ := norm_kids h
    have hne : ¬ (x = .leaf false ∧ y = .leaf false) := by
      rintro ⟨rfl, rfl⟩; simp [Tr.norm, Tr.mk2] at h
    have ln : (Tr.leaf false).norm = .leaf false := rfl
    have i1 := ihx hx
    have i2 := ihy hy
    rcases split_cases x y with ⟨h1, e⟩ | ⟨h1, h2, e⟩ | ⟨h1, h2, e⟩
    · have hy' : ¬ y = .leaf false := fun h2 => hne ⟨h1, h2⟩
      rw [e]
      simp only [nl, i2.1, i2.2, ln, true_and, hy', false_iff]
      simp
    · rw [e]
      simp only [nl, i1.1, i1.2, ln, and_true, h1, false_iff]
      simp
    · rw [e]
      simp only [nl, hx, hy, ln, and_true, true_and, h1, h2, false_iff]
      simp
end Go.Proofs.Ytkpefelakhbkhaa.I
