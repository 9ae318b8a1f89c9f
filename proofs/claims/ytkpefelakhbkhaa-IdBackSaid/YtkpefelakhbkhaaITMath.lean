/-
  Plain facts on trees' texts: they are one-to-one, and read as they are. No program here.
-/
import Derived.Test.YtkpefelakhbkhaaIArg
import Derived.Test.YtkpefelakhbkhaaIOwn
namespace Go.Proofs.Ytkpefelakhbkhaa.I

def alikeT : Tr → Tr → Bool
  | .leaf x, .leaf y => x == y
  | _, _ => false
/-- A normal form's text, from a place on: the tree, and the place behind. d - 1 is the depth that is left. -/
def tk (l : List Nat) : Nat → Nat → Option (Tr × Nat)
  | 0, _ => none
  | d + 1, a => if l[a]? = some 48 then some (.leaf false, a + 1) else if l[a]? = some 49 then some (.leaf true, a + 1) else if l[a]? = some 40 then
      (match tk l d (a + 1) with
        | none => none
        | some r => if l[r.2]? = some 44 then
            (match tk l d (r.2 + 1) with
              | none => none
              | some q => if l[q.2]? = some 41 then (if alikeT r.1 q.1 = true then none else some (.node r.1 q.1, q.2 + 1)) else none)
          else none)
    else none
theorem norm_leaf (o : Bool) : (Tr.leaf o).norm = .leaf o := rfl
theorem norm_node (x y : Tr) : (Tr.node x y).norm = .node x y ↔ x.norm = x ∧ y.norm = y ∧ alikeT x y = false := by
  constructor
  · intro h
    obtain ⟨h1, h2⟩ := norm_kids h
    refine ⟨h1, h2, ?_⟩
    rw [Tr.norm, h1, h2] at h
    cases x with
    | leaf p =>
      cases y with
      | leaf q =>
        by_cases e : p = q
        · subst e; simp [Tr.mk2] at h
        · simp [alikeT, e]
      | node _ _ => rfl
    | node _ _ => cases y <;> rfl
  · rintro ⟨h1, h2, h3⟩
    rw [Tr.norm, h1, h2]
    cases x with
    | leaf p =>
      cases y with
      | leaf q =>
        simp only [alikeT, beq_eq_false_iff_ne, ne_eq] at h3
        simp [Tr.mk2, h3]
      | node _ _ => rfl
    | node _ _ => cases y <;> rfl
/-- The same without the test on kids: what read reads. -/
def rk (l : List Nat) : Nat → Nat → Option (Tr × Nat)
  | 0, _ => none
  | d + 1, a => if l[a]? = some 48 then some (.leaf false, a + 1) else if l[a]? = some 49 then some (.leaf true, a + 1) else if l[a]? = some 40 then
      (match rk l d (a + 1) with
        | none => none
        | some r => if l[r.2]? = some 44 then
            (match rk l d (r.2 + 1) with
              | none => none
              | some q => if l[q.2]? = some 41 then some (.node r.1 q.1, q.2 + 1) else none)
          else none)
    else none
theorem rd_rk (l : List Nat) : ∀ (d a : Nat), (rd d (l.drop a)).map (fun r => (r.1, a + r.2)) = rk l d a
  | 0, a => rfl
  | d + 1, a => by
    rcases Nat.lt_or_ge a l.length with ha | ha
    · rw [List.drop_eq_getElem_cons ha]
      have e : l[a]? = some l[a] := List.getElem?_eq_getElem ha
      simp only [rd, rk, e, Option.some.injEq]
      by_cases h0 : l[a] = 48
      · rw [if_pos h0, if_pos h0]; rfl
      · rw [if_neg h0, if_neg h0]
        by_cases h1 : l[a] = 49
        · rw [if_pos h1, if_pos h1]; rfl
        · rw [if_neg h1, if_neg h1]
          by_cases h2 : l[a] = 40
          · rw [if_pos h2, if_pos h2]
            have ih1 := rd_rk l d (a + 1)
            cases hx : rd d (l.drop (a + 1)) with
            | none => rw [hx] at ih1; rw [← ih1]; rfl
            | some r =>
              rw [hx] at ih1
              rw [← ih1]
              simp only [Option.bind_some, Option.map_some]
              rw [List.drop_drop]
              rcases Nat.lt_or_ge (a + 1 + r.2) l.length with hb | hb
              · rw [List.drop_eq_getElem_cons hb]
                have e2 : l[a + 1 + r.2]? = some l[a + 1 + r.2] := List.getElem?_eq_getElem hb
                simp only [e2, Option.some.injEq]
                by_cases h3 : l[a + 1 + r.2] = 44
                · rw [if_pos h3, if_pos h3]
                  have ih2 := rd_rk l d (a + 1 + r.2 + 1)
                  cases hy : rd d (l.drop (a + 1 + r.2 + 1)) with
                  | none => rw [hy] at ih2; rw [← ih2]; rfl
                  | some q =>
                    rw [hy] at ih2
                    rw [← ih2]
                    simp only [Option.bind_some, Option.map_some]
                    rw [List.drop_drop]
                    rcases Nat.lt_or_ge (a + 1 + r.2 + 1 + q.2) l.length with hc | hc
                    · rw [List.drop_eq_getElem_cons hc]
                      have e3 : l[a + 1 + r.2 + 1 + q.2]? = some l[a + 1 + r.2 + 1 + q.2] := List.getElem?_eq_getElem hc
                      simp only [e3, Option.some.injEq]
                      by_cases h4 : l[a + 1 + r.2 + 1 + q.2] = 41
                      · rw [if_pos h4, if_pos h4]
                        simp only [Option.map_some, Option.some.injEq, Prod.mk.injEq, true_and]
                        omega
                      · rw [if_neg h4, if_neg h4]; rfl
                    · rw [List.drop_eq_nil_of_le hc, List.getElem?_eq_none hc]; simp
                · rw [if_neg h3, if_neg h3]; rfl
              · rw [List.drop_eq_nil_of_le hb, List.getElem?_eq_none hb]; simp
          · rw [if_neg h2, if_neg h2]; rfl
    · rw [List.drop_eq_nil_of_le ha]
      simp [rd, rk, List.getElem?_eq_none ha]
theorem tk_rk (l : List Nat) : ∀ (d a : Nat) (t : Tr) (p : Nat), tk l d a = some (t, p) ↔ rk l d a = some (t, p) ∧ t.norm = t
  | 0, a, t, p => by simp [tk, rk]
  | d + 1, a, t, p => by
    simp only [tk, rk]
    by_cases h0 : l[a]? = some 48
    · rw [if_pos h0, if_pos h0]
      constructor
      · intro h; refine ⟨h, ?_⟩; injection h with h; injection h with h _; subst h; rfl
      · exact fun h => h.1
    · rw [if_neg h0, if_neg h0]
      by_cases h1 : l[a]? = some 49
      · rw [if_pos h1, if_pos h1]
        constructor
        · intro h; refine ⟨h, ?_⟩; injection h with h; injection h with h _; subst h; rfl
        · exact fun h => h.1
      · rw [if_neg h1, if_neg h1]
        by_cases h2 : l[a]? = some 40
        · rw [if_pos h2, if_pos h2]
          have i1 := tk_rk l d (a + 1)
          constructor
          · intro h
            cases hx : tk l d (a + 1) with
            | none => rw [hx] at h; cases h
            | some r =>
              obtain ⟨r1, r2⟩ := r
              obtain ⟨k1, k2⟩ := (i1 r1 r2).1 hx
              rw [hx] at h
              simp only at h
              rw [k1]
              simp only
              by_cases h3 : l[r2]? = some 44
              · rw [if_pos h3] at h ⊢
                cases hy : tk l d (r2 + 1) with
                | none => rw [hy] at h; cases h
                | some q =>
                  obtain ⟨q1, q2⟩ := q
                  obtain ⟨k3, k4⟩ := (tk_rk l d (r2 + 1) q1 q2).1 hy
                  rw [hy] at h
                  simp only at h
                  rw [k3]
                  simp only
                  by_cases h4 : l[q2]? = some 41
                  · rw [if_pos h4] at h ⊢
                    cases ha : alikeT r1 q1 with
                    | true => rw [ha] at h; simp at h
                    | false =>
                      rw [ha] at h
                      simp only [Bool.false_eq_true, if_false] at h
                      refine ⟨h, ?_⟩
                      injection h with h; injection h with h _
                      rw [← h, norm_node]
                      exact ⟨k2, k4, ha⟩
                  · rw [if_neg h4] at h; cases h
              · rw [if_neg h3] at h; cases h
          · rintro ⟨h, hn⟩
            cases hx : rk l d (a + 1) with
            | none => rw [hx] at h; cases h
            | some r =>
              obtain ⟨r1, r2⟩ := r
              rw [hx] at h
              simp only at h
              by_cases h3 : l[r2]? = some 44
              · rw [if_pos h3] at h
                cases hy : rk l d (r2 + 1) with
                | none => rw [hy] at h; cases h
                | some q =>
                  obtain ⟨q1, q2⟩ := q
                  rw [hy] at h
                  simp only at h
                  by_cases h4 : l[q2]? = some 41
                  · rw [if_pos h4] at h
                    injection h with h; injection h with e1 e2
                    rw [← e1, norm_node] at hn
                    rw [(i1 r1 r2).2 ⟨hx, hn.1⟩]
                    simp only
                    rw [if_pos h3, (tk_rk l d (r2 + 1) q1 q2).2 ⟨hy, hn.2.1⟩]
                    simp only
                    rw [if_pos h4, hn.2.2, ← e1, ← e2]
                    simp
                  · rw [if_neg h4] at h; cases h
              · rw [if_neg h3] at h; cases h
        · rw [if_neg h2, if_neg h2]; simp
/-- What was read is the tree's text. -/
theorem rk_text (l : List Nat) : ∀ (d a : Nat) (t : Tr) (p : Nat), rk l d a = some (t, p) → l.drop a = textT t ++ l.drop p ∧ p = a + (textT t).length ∧ t.depth < d ∧ p ≤ l.length
  | 0, a, t, p, h => by simp [rk] at h
  | d + 1, a, t, p, h => by
    have cut : ∀ (i x : Nat), l[i]? = some x → i < l.length ∧ l.drop i = x :: l.drop (i + 1) := fun i x hx => by
      obtain ⟨hi, e⟩ := List.getElem?_eq_some_iff.1 hx
      exact ⟨hi, by rw [List.drop_eq_getElem_cons hi, e]⟩
    simp only [rk] at h
    by_cases h0 : l[a]? = some 48
    · rw [if_pos h0] at h
      injection h with h; injection h with e1 e2; subst e1; subst e2
      obtain ⟨c1, c2⟩ := cut a 48 h0
      exact ⟨by rw [c2]; rfl, rfl, by simp [Tr.depth], by omega⟩
    · rw [if_neg h0] at h
      by_cases h1 : l[a]? = some 49
      · rw [if_pos h1] at h
        injection h with h; injection h with e1 e2; subst e1; subst e2
        obtain ⟨c1, c2⟩ := cut a 49 h1
        exact ⟨by rw [c2]; rfl, rfl, by simp [Tr.depth], by omega⟩
      · rw [if_neg h1] at h
        by_cases h2 : l[a]? = some 40
        · rw [if_pos h2] at h
          cases hx : rk l d (a + 1) with
          | none => rw [hx] at h; cases h
          | some r =>
            obtain ⟨r1, r2⟩ := r
            rw [hx] at h
            simp only at h
            obtain ⟨k1, k2, k3, _⟩ := rk_text l d (a + 1) r1 r2 hx
            by_cases h3 : l[r2]? = some 44
            · rw [if_pos h3] at h
              cases hy : rk l d (r2 + 1) with
              | none => rw [hy] at h; cases h
              | some q =>
                obtain ⟨q1, q2⟩ := q
                rw [hy] at h
                simp only at h
                obtain ⟨k4, k5, k6, _⟩ := rk_text l d (r2 + 1) q1 q2 hy
                by_cases h4 : l[q2]? = some 41
                · rw [if_pos h4] at h
                  injection h with h; injection h with e1 e2; subst e1; subst e2
                  obtain ⟨c1, c2⟩ := cut a 40 h2
                  obtain ⟨c3, c4⟩ := cut r2 44 h3
                  obtain ⟨c5, c6⟩ := cut q2 41 h4
                  refine ⟨by rw [c2, k1, c4, k4, c6]; simp [textT], by simp [textT]; omega, by simp only [Tr.depth]; omega, by omega⟩
                · rw [if_neg h4] at h; cases h
            · rw [if_neg h3] at h; cases h
        · rw [if_neg h2] at h; cases h
/-- A tree's text is read. -/
theorem rk_of (l : List Nat) : ∀ (t : Tr) (d a : Nat) (r : List Nat), t.depth < d → l.drop a = textT t ++ r → rk l d a = some (t, a + (textT t).length)
  | t, 0, a, r, h, _ => by omega
  | .leaf o, d + 1, a, r, h, e => by
    have e0 : l[a]? = (l.drop a)[0]? := by rw [List.getElem?_drop, Nat.add_zero]
    cases o
    · simp [rk, e0, e, textT]
    · simp [rk, e0, e, textT]
  | .node x y, d + 1, a, r, h, e => by
    simp only [Tr.depth] at h
    have at0 : ∀ i, l[i]? = (l.drop i)[0]? := fun i => by rw [List.getElem?_drop, Nat.add_zero]
    have n0 : l[a]? = some 40 := by rw [at0, e]; simp [textT]
    have n1 : l.drop (a + 1) = textT x ++ (44 :: (textT y ++ (41 :: r))) := by
      rw [← List.drop_drop, e]; simp [textT]
    have i1 := rk_of l x d (a + 1) _ (by omega) n1
    have n2 : l.drop (a + 1 + (textT x).length) = 44 :: (textT y ++ (41 :: r)) := by
      rw [← List.drop_drop, n1, List.drop_left]
    have n3 : l[a + 1 + (textT x).length]? = some 44 := by rw [at0, n2]; rfl
    have n4 : l.drop (a + 1 + (textT x).length + 1) = textT y ++ (41 :: r) := by
      rw [← List.drop_drop, n2]; rfl
    have i2 := rk_of l y d (a + 1 + (textT x).length + 1) _ (by omega) n4
    have n5 : l.drop (a + 1 + (textT x).length + 1 + (textT y).length) = 41 :: r := by
      rw [← List.drop_drop, n4, List.drop_left]
    have n6 : l[a + 1 + (textT x).length + 1 + (textT y).length]? = some 41 := by rw [at0, n5]; rfl
    simp only [rk, n0, if_true, i1, n3, i2, n6]
    simp [textT]
    omega
theorem text_inj {s t : Tr} (h : textT s = textT t) : s = t := by
  have h1 := rk_of (textT s) s (max s.depth t.depth + 1) 0 [] (by omega) (by simp)
  have h2 := rk_of (textT s) t (max s.depth t.depth + 1) 0 [] (by omega) (by rw [h]; simp)
  rw [h1] at h2
  injection h2 with h2
  injection h2
theorem text_len : ∀ t : Tr, (textT t).length + 1 = 2 * t.nodes
  | .leaf true => rfl
  | .leaf false => rfl
  | .node x y => by have := text_len x; have := text_len y; simp [textT, Tr.nodes]; omega
/-- The normal form that a text is. -/
def parseT (s : ByteArray) : Option Tr := if 4093 < s.size then none else match tk (byt s) 33 0 with
  | some r => if r.2 < s.size then none else some r.1
  | none => none
theorem parseT_iff (s : ByteArray) (t : Tr) : parseT s = some t ↔ byt s = textT t ∧ t.norm = t ∧ t.depth ≤ 32 ∧ t.nodes ≤ 2047 := by
  have hlen := byt_length s
  constructor
  · intro h
    unfold parseT at h
    by_cases h0 : 4093 < s.size
    · rw [if_pos h0] at h; cases h
    · rw [if_neg h0] at h
      cases hx : tk (byt s) 33 0 with
      | none => rw [hx] at h; cases h
      | some r =>
        obtain ⟨r1, r2⟩ := r
        rw [hx] at h
        simp only at h
        by_cases h1 : r2 < s.size
        · rw [if_pos h1] at h; cases h
        · rw [if_neg h1] at h
          injection h with h; subst h
          obtain ⟨k1, k2⟩ := (tk_rk _ _ _ _ _).1 hx
          obtain ⟨k3, k4, k5, k6⟩ := rk_text _ _ _ _ _ k1
          have k7 : (byt s).drop r2 = [] := List.drop_eq_nil_of_le (by omega)
          rw [k7, List.append_nil, List.drop_zero] at k3
          have := text_len r1
          rw [← k3, hlen] at this
          exact ⟨k3, k2, by omega, by omega⟩
  · rintro ⟨h1, h2, h3, h4⟩
    have hl := text_len t
    rw [← h1, hlen] at hl
    have hk := rk_of (byt s) t 33 0 [] (by omega) (by rw [h1]; simp)
    have ht := (tk_rk _ _ _ _ _).2 ⟨hk, h2⟩
    unfold parseT
    rw [if_neg (by omega), ht]
    simp only
    rw [if_neg (by rw [← h1, hlen]; omega)]
end Go.Proofs.Ytkpefelakhbkhaa.I
