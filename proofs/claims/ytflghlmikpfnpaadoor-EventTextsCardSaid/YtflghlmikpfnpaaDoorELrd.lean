/-
  The reference's reading of a text, which is less strict, as a plain function; what it comes to together with showing again.
-/
import Derived.Test.YtflghlmikpfnpaaDoorERd
namespace Go.Proofs.YtflghlmikpfnpaaDoor.E
open Go.RowKit

/-- At most so many digits. -/
def lsc : Nat → List UInt8 → Nat → Nat → Nat × Nat
  | 0, _, n, k => (n, k)
  | _ + 1, [], n, k => (n, k)
  | f + 1, b :: r, n, k => if isD b = true then lsc f r (10 * n + dgv b) (k + 1) else (n, k)
def lnum (s : List UInt8) (p : Nat) : Nat × Nat := lsc 19 (s.drop p) 0 0
def cutN (n : Nat) : Int := ((min n 4611686018427387905 : Nat) : Int)
/-- A tree's text, from a place on. -/
def lrd (s : List UInt8) : Nat → Nat → Option (Tr × Nat)
  | 0, _ => none
  | f + 1, p => match s[p]? with
    | none => none
    | some b => if b ≠ 40 then (if (lnum s p).2 = 0 then none else some (.leaf (cutN (lnum s p).1), p + (lnum s p).2))
      else if s[p + 1 + (lnum s (p + 1)).2]? = some 44 then (lrd s f (p + 1 + (lnum s (p + 1)).2 + 1)).bind fun x =>
        if s[x.2]? = some 44 then (lrd s f (x.2 + 1)).bind fun y =>
          if s[y.2]? = some 41 then some (.node (cutN (lnum s (p + 1)).1) x.1 y.1, y.2 + 1) else none
        else none
      else none
/-- What is still to be read of a node with these kids. -/
def kont (s : List UInt8) (f : Nat) (n : Int) : List Tr → Nat → Option (Tr × Nat)
  | [], q => if s[q]? = some 44 then (lrd s f (q + 1)).bind fun x =>
        if s[x.2]? = some 44 then (lrd s f (x.2 + 1)).bind fun y =>
          if s[y.2]? = some 41 then some (.node n x.1 y.1, y.2 + 1) else none
        else none
      else none
  | [x], q => if s[q]? = some 44 then (lrd s f (q + 1)).bind fun y =>
          if s[y.2]? = some 41 then some (.node n x y.1, y.2 + 1) else none
        else none
  | x :: y :: _, q => if s[q]? = some 41 then some (.node n x y, q + 1) else none
theorem kont_step (s : List UInt8) (f : Nat) (n : Int) (ks : List Tr) (q : Nat) (h : ks.length < 2) : kont s f n ks q = if s[q]? = some 44 then (lrd s f (q + 1)).bind fun x => kont s f n (ks ++ [x.1]) x.2 else none := by
  match ks, h with
  | [], _ => rfl
  | [x], _ => rfl
theorem lrd_none {s : List UInt8} {f p : Nat} (h : s[p]? = none) : lrd s (f + 1) p = none := by rw [lrd, h]
theorem lrd_leaf {s : List UInt8} {f p : Nat} {b : UInt8} (h : s[p]? = some b) (hb : b ≠ 40) : lrd s (f + 1) p = if (lnum s p).2 = 0 then none else some (.leaf (cutN (lnum s p).1), p + (lnum s p).2) := by rw [lrd, h]; simp [hb]
theorem lrd_node {s : List UInt8} {f p : Nat} (h : s[p]? = some 40) : lrd s (f + 1) p = kont s f (cutN (lnum s (p + 1)).1) [] (p + 1 + (lnum s (p + 1)).2) := by
  rw [lrd, h]
  simp only [ne_eq, not_true_eq_false, if_false]
  rfl

theorem lsc_go : ∀ (ds rest : List UInt8) (f n k : Nat), ds.length ≤ f → (∀ x ∈ ds, isD x = true) → NoD rest → lsc f (ds ++ rest) n k = (val n ds, k + ds.length)
  | [], rest, f, n, k, _, _, hr => by
    cases f with
    | zero => rfl
    | succ f =>
      cases rest with
      | nil => rfl
      | cons b r => rw [List.nil_append, lsc, if_neg (by rw [hr]; decide)]; rfl
  | b :: ds, rest, f, n, k, hf, hd, hr => by
    obtain ⟨f, rfl⟩ : ∃ g, f = g + 1 := ⟨f - 1, by simp at hf; omega⟩
    rw [List.length_cons] at hf
    rw [List.cons_append, lsc, if_pos (hd b List.mem_cons_self), lsc_go ds rest f _ _ (by omega) (fun x hx => hd x (List.mem_cons_of_mem _ hx)) hr, val_cons, List.length_cons, Nat.mul_comm]
    congr 1
    omega
theorem dec_len : ∀ (k u : Nat), 1 ≤ k → u < 10 ^ k → (Lib.decDigits u).length ≤ k
  | 0, _, h, _ => by omega
  | k + 1, u, _, h => by
    by_cases h1 : u < 10
    · rw [Lib.decDigits_one h1]; simp
    · rw [Lib.decDigits, dif_neg h1, List.length_append, List.length_singleton]
      have hk : 1 ≤ k := by
        cases k with
        | zero => simp at h; omega
        | succ k => omega
      have := dec_len k (u / 10) hk (by rw [Nat.pow_succ] at h; omega)
      omega
theorem lnum_full {s : List UInt8} {p : Nat} {n : Int} {rest : List UInt8} (h : s.drop p = Lib.itoa n ++ rest) (hr : NoD rest) (h0 : 0 ≤ n) (h1 : n ≤ 4611686018427387904) : cutN (lnum s p).1 = n ∧ (lnum s p).2 = (Lib.itoa n).length := by
  obtain ⟨u, rfl⟩ : ∃ u : Nat, n = u := ⟨n.toNat, by omega⟩
  rw [Lib.itoa_nonneg] at *
  obtain ⟨c1, c2⟩ := dec_canon u
  have hd : ∀ x ∈ Lib.decDigits u, isD x = true := by
    cases hc : Lib.decDigits u with
    | nil => intro x hx; simp at hx
    | cons b r => rw [hc] at c1; exact c1.1
  have hl := dec_len 19 u (by omega) (by omega)
  have := lsc_go (Lib.decDigits u) rest 19 0 0 hl hd hr
  unfold lnum
  rw [h, this, c2]
  refine ⟨?_, by simp⟩
  unfold cutN
  simp only
  omega
theorem lrd_full (s : List UInt8) : ∀ (t : Tr) (f p : Nat) (m : Int) (rest : List UInt8), s.drop p = txt t ++ rest → NoD rest → t.okc m = true → m ≤ 4611686018427387904 → t.depth < f → lrd s f p = some (t, p + (txt t).length) := by
  intro t
  induction t with
  | leaf n =>
    intro f p m rest h hr hok hm hf
    obtain ⟨f, rfl⟩ : ∃ g, f = g + 1 := ⟨f - 1, by omega⟩
    have hn := okc_N _ _ hok
    simp only [Tr.N] at hn
    simp only [txt] at h ⊢
    obtain ⟨b, r, e1, e2⟩ := itoa_head hn.1
    have hb := (drop_at (x := b) (rest := r ++ rest) (by rw [h, e1]; rfl)).1
    obtain ⟨k1, k2⟩ := lnum_full h hr hn.1 (by omega)
    rw [lrd_leaf hb (by intro e; rw [e] at e2; exact absurd e2 (by decide)), k1, k2, if_neg (by rw [e1]; simp)]
  | node n x y ihx ihy =>
    intro f p m rest h hr hok hm hf
    obtain ⟨f, rfl⟩ : ∃ g, f = g + 1 := ⟨f - 1, by omega⟩
    have hn := okc_N _ _ hok
    simp only [Tr.N] at hn
    simp only [Tr.okc, Bool.and_eq_true, decide_eq_true_eq] at hok
    simp only [Tr.depth] at hf
    simp only [txt, List.cons_append, List.append_assoc, List.nil_append] at h
    have d1 := (drop_at h).2
    obtain ⟨k1, k2⟩ := lnum_full (rest := 44 :: (txt x ++ 44 :: (txt y ++ 41 :: rest))) d1 (show isD 44 = false by decide) hn.1 (by omega)
    have d2 : s.drop (p + 1 + (Lib.itoa n).length) = 44 :: (txt x ++ 44 :: (txt y ++ 41 :: rest)) := by rw [← List.drop_drop, d1, List.drop_left]
    have d3 := (drop_at d2).2
    have ix := ihx f _ (m - n) _ d3 (show isD 44 = false by decide) hok.2.1 (by omega) (by omega)
    have d4 : s.drop (p + 1 + (Lib.itoa n).length + 1 + (txt x).length) = 44 :: (txt y ++ 41 :: rest) := by rw [← List.drop_drop, d3, List.drop_left]
    have d5 := (drop_at d4).2
    have iy := ihy f _ (m - n) _ d5 (show isD 41 = false by decide) hok.2.2 (by omega) (by omega)
    have d6 : s.drop (p + 1 + (Lib.itoa n).length + 1 + (txt x).length + 1 + (txt y).length) = 41 :: rest := by rw [← List.drop_drop, d5, List.drop_left]
    rw [lrd_node (drop_at h).1, k1, k2, kont_step _ _ _ _ _ (by simp), if_pos (drop_at d2).1, ix, Option.bind_some, kont_step _ _ _ _ _ (by simp)]
    simp only [List.nil_append]
    rw [if_pos (drop_at d4).1, iy, Option.bind_some]
    simp only [List.cons_append, List.nil_append, kont]
    rw [if_pos (drop_at d6).1]
    simp only [Option.some.injEq, Prod.mk.injEq, true_and]
    simp only [txt, List.length_cons, List.length_append, List.length_nil]
    omega
/-- Read, and shown again: the text must be that. -/
def rparse (s : List UInt8) : Option Tr := (lrd s 33 0).bind fun x => if x.2 = s.length then (if okT x.1 = true ∧ txt x.1.norm = s then some x.1 else none) else none
theorem rparse_eq (s : List UInt8) : rparse s = parse s := by
  have key : ∀ t, rparse s = some t ↔ parse s = some t := by
    intro t
    rw [parse_iff]
    unfold rparse
    constructor
    · intro h
      obtain ⟨⟨x, q⟩, hx, h⟩ := Option.bind_eq_some_iff.1 h
      simp only at h
      split at h
      · split at h
        · rename_i hq ho
          injection h with h
          subst h
          have hok := okT_norm ho.1
          have hokn := (okT_iff _).1 hok
          have := lrd_full s x.norm 33 0 4611686018427387904 [] (by rw [← ho.2]; simp) trivial hokn.2.1 (by omega) (by omega)
          rw [hx] at this
          injection this with this
          have e : x = x.norm := congrArg Prod.fst this
          refine ⟨?_, ?_, ho.1⟩
          · rw [e]; exact ho.2.symm
          · rw [e]; exact nf_norm _
        · cases h
      · cases h
    · rintro ⟨h1, h2, h3⟩
      have hok := (okT_iff _).1 h3
      have := lrd_full s t 33 0 4611686018427387904 [] (by rw [h1]; simp) trivial hok.2.1 (by omega) (by omega)
      rw [this, Option.bind_some]
      simp only
      rw [if_pos (by rw [h1]; omega), if_pos ⟨h3, by rw [norm_nf h2]; exact h1.symm⟩]
  cases h : rparse s with
  | none =>
    cases h2 : parse s with
    | none => rfl
    | some t => rw [(key t).2 h2] at h; cases h
  | some t => exact ((key t).1 h).symm
end Go.Proofs.YtflghlmikpfnpaaDoor.E
