/-
  Plain facts on reading a tree off a source, part by part: texts. No program's walk here.
-/
import Derived.Test.YtflghlmikpfnpaaDoorETMath
import Derived.Test.YtflghlmikpfnpaaDoorEText
namespace Go.Proofs.YtflghlmikpfnpaaDoor.E

/-- A source's parts, by its position. -/
structure Src where
  inn : Nat → Bool × Nat
  num : Nat → (Int × Bool) × Nat
  mrk : UInt8 → Nat → Bool × Nat
/-- A tree off a source, with where it ends and how many nodes there are; none: no normal form. -/
def rd (S : Src) : Nat → Nat → Nat → Int → Int → Option (Tr × Nat × Nat)
  | 0, _, _, _, _ => none
  | f + 1, p, c, d, s =>
    if (S.num (S.inn p).2).1.2 = false ∨ fitsB (S.num (S.inn p).2).1.1 d s = false ∨ 2047 < c + 1 then none
    else if (S.inn p).1 = false then some (.leaf (S.num (S.inn p).2).1.1, (S.num (S.inn p).2).2, c + 1)
    else if (S.mrk 44 (S.num (S.inn p).2).2).1 = false then none
    else (rd S f (S.mrk 44 (S.num (S.inn p).2).2).2 (c + 1) (d + 1) (s + (S.num (S.inn p).2).1.1)).bind fun x =>
      if (S.mrk 44 x.2.1).1 = false then none
      else (rd S f (S.mrk 44 x.2.1).2 x.2.2 (d + 1) (s + (S.num (S.inn p).2).1.1)).bind fun y =>
        if (S.mrk 41 y.2.1).1 = false ∨ lowestT x.1 y.1 = false then none
        else some (.node (S.num (S.inn p).2).1.1 x.1 y.1, (S.mrk 41 y.2.1).2, y.2.2)
theorem lowest_iff (x y : Tr) : lowestT x y = true ↔ min x.N y.N = 0 ∧ Tr.alike x y = false := by
  unfold lowestT
  simp only [Bool.and_eq_true, Bool.not_eq_true', decide_eq_true_eq]
  exact and_comm
theorem fits_iff {n d s : Int} (h0 : 0 ≤ s) (h1 : s ≤ mc) : fitsB n d s = true ↔ d ≤ 32 ∧ n ≤ mc - s := by
  have hm : mc = 4611686018427387904 := rfl
  unfold fitsB
  rw [wrap64_id (by omega) (by omega)]
  simp
/-- What was read is a normal form, and right. -/
theorem rd_ok {S : Src} (hn : ∀ p, (S.num p).1.2 = true → 0 ≤ (S.num p).1.1) : ∀ (f p c : Nat) (d s : Int) (t : Tr) (p' c' : Nat), rd S f p c d s = some (t, p', c') → 0 ≤ s → s ≤ mc → Nf t ∧ t.okc (mc - s) = true ∧ d + t.depth ≤ 32 ∧ c' = c + t.nodes ∧ c' ≤ 2047
  | 0, _, _, _, _, _, _, _, h, _, _ => by simp [rd] at h
  | f + 1, p, c, d, s, t, p', c', h, h0, h1 => by
    rw [rd] at h
    split at h
    · cases h
    · rename_i hg
      simp only [not_or, Bool.not_eq_false] at hg
      obtain ⟨g1, g2, g3⟩ := hg
      have hn0 := hn _ g1
      have g2' := (fits_iff h0 h1).1 g2
      generalize (S.num (S.inn p).2).1.1 = n at *
      split at h
      · injection h with h
        injection h with h2 h
        injection h with h3 h4
        subst h2
        refine ⟨trivial, by simp [Tr.okc]; omega, by simp [Tr.depth]; omega, by simp only [Tr.nodes]; omega, by omega⟩
      · split at h
        · cases h
        · obtain ⟨⟨x, px, cx⟩, hx, h⟩ := Option.bind_eq_some_iff.1 h
          simp only at h
          split at h
          · cases h
          · obtain ⟨⟨y, py, cy⟩, hy, h⟩ := Option.bind_eq_some_iff.1 h
            simp only at h
            split at h
            · cases h
            · rename_i hl
              simp only [not_or, Bool.not_eq_false] at hl
              injection h with h
              injection h with h2 h
              injection h with h3 h4
              subst h2
              obtain ⟨x1, x2, x3, x4, x5⟩ := rd_ok hn f _ _ _ _ x px cx hx (by omega) (by omega)
              obtain ⟨y1, y2, y3, y4, y5⟩ := rd_ok hn f _ _ _ _ y py cy hy (by omega) (by omega)
              obtain ⟨l1, l2⟩ := (lowest_iff x y).1 hl.2
              have e : mc - (s + n) = mc - s - n := by omega
              rw [e] at x2 y2
              refine ⟨⟨x1, y1, l1, l2⟩, ?_, by simp only [Tr.depth]; omega, by simp only [Tr.nodes]; omega, by omega⟩
              simp only [Tr.okc, Bool.and_eq_true, decide_eq_true_eq]
              exact ⟨by omega, x2, y2⟩
/-- A text as a source. -/
def txS (s : List UInt8) : Src where
  inn p := if s[p]? = some 40 then (true, p + 1) else (false, p)
  num p := match scan (s.drop p) false 0 0 with
    | none => ((0, false), p)
    | some (n, k) => ((((n : Nat) : Int), decide (0 < k)), p + k)
  mrk x p := if s[p]? = some x then (true, p + 1) else (false, p)
theorem num_pos (s : List UInt8) (p : Nat) : 0 ≤ ((txS s).num p).1.1 := by
  unfold txS
  simp only
  split <;> simp
theorem num_some {s : List UInt8} {p : Nat} (h : ((txS s).num p).1.2 = true) : s.drop p = Lib.itoa ((txS s).num p).1.1 ++ s.drop ((txS s).num p).2 ∧ p ≤ ((txS s).num p).2 := by
  unfold txS at *
  simp only at *
  split at h
  · cases h
  · rename_i n k hs
    simp only [decide_eq_true_eq] at h
    obtain ⟨h1, h2, h3⟩ := scan_some hs h
    simp only
    rw [Lib.itoa_nonneg]
    refine ⟨?_, by omega⟩
    rw [List.drop_drop] at h1
    exact h1
theorem num_full {s : List UInt8} {p : Nat} {n : Int} {rest : List UInt8} (h : s.drop p = Lib.itoa n ++ rest) (hr : NoD rest) (h0 : 0 ≤ n) (h1 : n ≤ 4611686018427387904) : (txS s).num p = ((n, true), p + (Lib.itoa n).length) := by
  obtain ⟨u, rfl⟩ : ∃ u : Nat, n = u := ⟨n.toNat, by omega⟩
  rw [Lib.itoa_nonneg] at *
  obtain ⟨c1, c2⟩ := dec_canon u
  have hs := scan_full c1 hr (by rw [c2]; omega)
  rw [← h, c2] at hs
  have hl : 0 < (Lib.decDigits u).length := by
    cases hd : Lib.decDigits u with
    | nil => rw [hd] at c1; exact c1.elim
    | cons _ _ => simp
  unfold txS
  simp only [hs]
  simp [hl]
theorem itoa_head {n : Int} (h0 : 0 ≤ n) : ∃ b r, Lib.itoa n = b :: r ∧ isD b = true := by
  obtain ⟨u, rfl⟩ : ∃ u : Nat, n = u := ⟨n.toNat, by omega⟩
  rw [Lib.itoa_nonneg]
  obtain ⟨c1, _⟩ := dec_canon u
  cases hd : Lib.decDigits u with
  | nil => rw [hd] at c1; exact c1.elim
  | cons b r => rw [hd] at c1; exact ⟨b, r, rfl, c1.1 b List.mem_cons_self⟩
theorem drop_at {s : List UInt8} {p : Nat} {x : UInt8} {rest : List UInt8} (h : s.drop p = x :: rest) : s[p]? = some x ∧ s.drop (p + 1) = rest := by
  have h1 : (s.drop p)[0]? = some x := by rw [h]; rfl
  rw [List.getElem?_drop, Nat.add_zero] at h1
  refine ⟨h1, ?_⟩
  rw [← List.drop_drop, h]; rfl
theorem at_drop {s : List UInt8} {p : Nat} {x : UInt8} (h : s[p]? = some x) : s.drop p = x :: s.drop (p + 1) := by
  obtain ⟨hp, e⟩ := List.getElem?_eq_some_iff.1 h
  rw [List.drop_eq_getElem_cons hp, e]
theorem mrk_some {s : List UInt8} {x : UInt8} {p : Nat} (h : ((txS s).mrk x p).1 ≠ false) : s.drop p = x :: s.drop ((txS s).mrk x p).2 ∧ p ≤ ((txS s).mrk x p).2 := by
  unfold txS at *
  simp only at *
  split at h
  · rename_i e
    rw [if_pos e]
    exact ⟨at_drop e, by simp⟩
  · exact absurd rfl h
theorem mrk_full {s : List UInt8} {x : UInt8} {p : Nat} {rest : List UInt8} (h : s.drop p = x :: rest) : (txS s).mrk x p = (true, p + 1) := by
  unfold txS
  simp only
  rw [if_pos (drop_at h).1]
/-- What was read is the tree of that text. -/
theorem rd_txt (s : List UInt8) : ∀ (f p c : Nat) (d u : Int) (t : Tr) (p' c' : Nat), rd (txS s) f p c d u = some (t, p', c') → s.drop p = txt t ++ s.drop p' ∧ p ≤ p'
  | 0, _, _, _, _, _, _, _, h => by simp [rd] at h
  | f + 1, p, c, d, u, t, p', c', h => by
    rw [rd] at h
    split at h
    · cases h
    · rename_i hg
      simp only [not_or, Bool.not_eq_false] at hg
      obtain ⟨n1, n2⟩ := num_some hg.1
      split at h
      · rename_i hi
        injection h with h
        injection h with h2 h
        injection h with h3 h4
        subst h2
        have e : ((txS s).inn p).2 = p := by
          unfold txS at *; simp only at *
          split at hi
          · cases hi
          · rename_i e; rw [if_neg e]
        rw [e] at n1 n2 h3 ⊢
        rw [← h3]
        exact ⟨n1, n2⟩
      · rename_i hi
        have ei : s.drop p = 40 :: s.drop ((txS s).inn p).2 ∧ p ≤ ((txS s).inn p).2 := mrk_some (x := 40) hi
        split at h
        · cases h
        · rename_i hm
          obtain ⟨m1, m2⟩ := mrk_some hm
          obtain ⟨⟨x, px, cx⟩, hx, h⟩ := Option.bind_eq_some_iff.1 h
          simp only at h
          obtain ⟨x1, x2⟩ := rd_txt s f _ _ _ _ x px cx hx
          split at h
          · cases h
          · rename_i hm2
            obtain ⟨k1, k2⟩ := mrk_some hm2
            obtain ⟨⟨y, py, cy⟩, hy, h⟩ := Option.bind_eq_some_iff.1 h
            simp only at h
            obtain ⟨y1, y2⟩ := rd_txt s f _ _ _ _ y py cy hy
            split at h
            · cases h
            · rename_i hl
              simp only [not_or] at hl
              obtain ⟨j1, j2⟩ := mrk_some hl.1
              injection h with h
              injection h with h2 h
              injection h with h3 h4
              subst h2
              subst h3
              refine ⟨?_, by omega⟩
              rw [ei.1, n1, m1, x1, k1, y1, j1]
              simp [txt]
/-- A normal form's text is read. -/
theorem rd_full (s : List UInt8) : ∀ (t : Tr) (f p c : Nat) (d u : Int) (rest : List UInt8), s.drop p = txt t ++ rest → NoD rest → Nf t → t.okc (mc - u) = true → 0 ≤ u → u ≤ mc → d + t.depth ≤ 32 → c + t.nodes ≤ 2047 → t.depth < f → rd (txS s) f p c d u = some (t, p + (txt t).length, c + t.nodes) := by
  intro t
  have hm : mc = 4611686018427387904 := rfl
  induction t with
  | leaf n =>
    intro f p c d u rest h hr _ hok h0 h1 hd hc hf
    obtain ⟨f, rfl⟩ : ∃ g, f = g + 1 := ⟨f - 1, by omega⟩
    have hn := okc_N _ _ hok
    simp only [Tr.N] at hn
    simp only [txt] at h ⊢
    simp only [Tr.depth, Tr.nodes] at hd hc
    obtain ⟨b, r, e1, e2⟩ := itoa_head hn.1
    have hi : (txS s).inn p = (false, p) := by
      have := (drop_at (x := b) (rest := r ++ rest) (by rw [h, e1]; rfl)).1
      unfold txS
      simp only
      rw [if_neg]
      rw [this]
      intro e
      injection e with e
      rw [e] at e2
      exact absurd e2 (by decide)
    have hnum := num_full h hr hn.1 (by omega)
    rw [rd, hi]
    simp only [hnum]
    rw [if_neg, if_pos trivial]
    · rfl
    · rintro (h | h | h)
      · cases h
      · rw [(fits_iff h0 h1).2 ⟨by omega, by omega⟩] at h; cases h
      · omega
  | node n x y ihx ihy =>
    intro f p c d u rest h hr hnf hok h0 h1 hd hc hf
    obtain ⟨f, rfl⟩ : ∃ g, f = g + 1 := ⟨f - 1, by omega⟩
    have hn := okc_N _ _ hok
    simp only [Tr.N] at hn
    simp only [Tr.okc, Bool.and_eq_true, decide_eq_true_eq] at hok
    simp only [Tr.depth, Tr.nodes] at hd hc hf
    obtain ⟨n1, n2, n3, n4⟩ := hnf
    simp only [txt, List.cons_append, List.append_assoc, List.nil_append] at h
    have hi : (txS s).inn p = (true, p + 1) := mrk_full (x := 40) h
    have d1 := (drop_at h).2
    have hnum := num_full (rest := 44 :: (txt x ++ 44 :: (txt y ++ 41 :: rest))) d1 (show isD 44 = false by decide) hn.1 (by omega)
    have d2 : s.drop (p + 1 + (Lib.itoa n).length) = 44 :: (txt x ++ 44 :: (txt y ++ 41 :: rest)) := by rw [← List.drop_drop, d1, List.drop_left]
    have hm1 := mrk_full d2
    have d3 := (drop_at d2).2
    have e : mc - (u + n) = mc - u - n := by omega
    have ix := ihx f _ (c + 1) (d + 1) (u + n) _ d3 (show isD 44 = false by decide) n1 (by rw [e]; exact hok.2.1) (by omega) (by omega) (by omega) (by omega) (by omega)
    have d4 : s.drop (p + 1 + (Lib.itoa n).length + 1 + (txt x).length) = 44 :: (txt y ++ 41 :: rest) := by rw [← List.drop_drop, d3, List.drop_left]
    have hm2 := mrk_full d4
    have d5 := (drop_at d4).2
    have iy := ihy f _ (c + 1 + x.nodes) (d + 1) (u + n) _ d5 (show isD 41 = false by decide) n2 (by rw [e]; exact hok.2.2) (by omega) (by omega) (by omega) (by omega) (by omega)
    have d6 : s.drop (p + 1 + (Lib.itoa n).length + 1 + (txt x).length + 1 + (txt y).length) = 41 :: rest := by rw [← List.drop_drop, d5, List.drop_left]
    have hm3 := mrk_full d6
    rw [rd, hi]
    simp only [hnum, hm1, ix, Option.bind_some, hm2, iy, hm3]
    rw [if_neg, if_neg (by simp), if_neg (by simp), if_neg (by simp), if_neg]
    · simp only [Option.some.injEq, Prod.mk.injEq, true_and]
      refine ⟨?_, by simp only [Tr.nodes]; omega⟩
      simp only [txt, List.length_cons, List.length_append, List.length_nil]
      omega
    · rintro (h | h)
      · cases h
      · rw [(lowest_iff x y).2 ⟨n3, n4⟩] at h; cases h
    · rintro (h | h | h)
      · cases h
      · rw [(fits_iff h0 h1).2 ⟨by omega, by omega⟩] at h; cases h
      · omega
/-- The tree whose text s is. -/
def parse (s : List UInt8) : Option Tr := (rd (txS s) 34 0 0 0 0).bind fun x => if x.2.1 < s.length then none else some x.1
theorem parse_iff (s : List UInt8) (t : Tr) : parse s = some t ↔ s = txt t ∧ Nf t ∧ okT t = true := by
  have hm : mc = 4611686018427387904 := rfl
  unfold parse
  constructor
  · intro h
    obtain ⟨⟨x, p, c⟩, hx, h⟩ := Option.bind_eq_some_iff.1 h
    simp only at h
    split at h
    · cases h
    · rename_i hp
      injection h with h
      subst h
      obtain ⟨h1, h2⟩ := rd_txt s _ _ _ _ _ _ _ _ hx
      obtain ⟨k1, k2, k3, k4, k5⟩ := rd_ok (fun p _ => num_pos s p) _ _ _ _ _ _ _ _ hx (by omega) (by omega)
      refine ⟨?_, k1, (okT_iff _).2 ⟨by omega, by simpa using k2, by omega⟩⟩
      rw [List.drop_zero, List.drop_eq_nil_of_le (by omega), List.append_nil] at h1
      exact h1
  · rintro ⟨h1, h2, h3⟩
    obtain ⟨k1, k2, k3⟩ := (okT_iff t).1 h3
    rw [rd_full s t 34 0 0 0 0 [] (by rw [h1]; simp) trivial h2 (by simpa using k2) (by omega) (by omega) (by omega) (by omega) (by omega)]
    simp only [Option.bind_some]
    rw [if_neg (by rw [h1]; omega)]
end Go.Proofs.YtflghlmikpfnpaaDoor.E
