/-
  Plain facts on trees that came in: which are right, by the document's count and by the program's walk. No program here.
-/
import Derived.Test.YtflghlmikpfnpaaDoorEMath
import Derived.IntWalk
namespace Go.Proofs.YtflghlmikpfnpaaDoor.E
open Go.RowKit

def Fo.len : Fo → Nat
  | .nil => 0
  | .cons _ _ rest => rest.len + 1
def Fo.size : Fo → Nat
  | .nil => 0
  | .cons _ ks rest => ks.size + rest.size + 1
def one (n : Int) : List Tr → Option Tr
  | [] => some (.leaf n)
  | [x, y] => some (.node n x y)
  | _ => none
def trees : Fo → Option (List Tr)
  | .nil => some []
  | .cons n ks rest => (trees ks).bind fun k => (one n k).bind fun t => (trees rest).map (t :: ·)
def badN (n : Int) (ks : Fo) (d : Nat) (l m : Int) : Prop := l - 1 < 0 ∨ n < 0 ∨ m < n ∨ (ks.len ≠ 0 ∧ (ks.len ≠ 2 ∨ d = 0))
instance (n : Int) (ks : Fo) (d : Nat) (l m : Int) : Decidable (badN n ks d l m) := by unfold badN; infer_instance
def rightK : Fo → Nat → Int → Int → Int
  | .nil, _, l, _ => l
  | .cons n ks rest, d, l, m =>
    let l1 := if badN n ks d l m then -1 else rightK ks (d - 1) (l - 1) (m - n)
    if l1 < 0 then l1 else rightK rest d l1 m
def rightT (n : Int) (ks : Fo) (d : Nat) (l m : Int) : Int := if badN n ks d l m then -1 else rightK ks (d - 1) (l - 1) (m - n)
theorem rightK_cons (n : Int) (ks rest : Fo) (d : Nat) (l m : Int) : rightK (.cons n ks rest) d l m = if rightT n ks d l m < 0 then rightT n ks d l m else rightK rest d (rightT n ks d l m) m := rfl
theorem trees_len : ∀ (f : Fo) (ts : List Tr), trees f = some ts → ts.length = f.len
  | .nil, ts, h => by simp [trees] at h; subst h; rfl
  | .cons o ks rest, ts, h => by
    simp only [trees] at h
    obtain ⟨k, _, h⟩ := Option.bind_eq_some_iff.1 h
    obtain ⟨t, _, h⟩ := Option.bind_eq_some_iff.1 h
    obtain ⟨r, hr, rfl⟩ := Option.map_eq_some_iff.1 h
    simp [Fo.len, trees_len rest r hr]
/-- Nodes left behind a tree of l, within a depth and a count; below 0: no. -/
def leftOf (t : Option Tr) (d : Nat) (l m : Int) : Int := match t with
  | some t => if (t.depth ≤ d ∧ t.okc m = true) ∧ (t.nodes : Int) ≤ l then l - t.nodes else -1
  | none => -1
def sumN (ts : List Tr) : Nat := (ts.map Tr.nodes).sum
def leftOfs (ts : Option (List Tr)) (d : Nat) (l m : Int) : Int := match ts with
  | some ts => if (∀ t ∈ ts, t.depth ≤ d ∧ t.okc m = true) ∧ (sumN ts : Int) ≤ l then l - sumN ts else -1
  | none => -1
theorem rightT_of (n : Int) (ks : Fo) (d : Nat) (l m : Int) (hl : 0 ≤ l) (ih : ∀ d l m, 0 ≤ l → rightK ks d l m = leftOfs (trees ks) d l m) : rightT n ks d l m = leftOf ((trees ks).bind (one n)) d l m := by
  unfold rightT
  by_cases h0 : l - 1 < 0
  · rw [if_pos (.inl h0)]
    unfold leftOf
    split
    · rename_i t _
      have := t.nodes_pos
      rw [if_neg (by omega)]
    · rfl
  · by_cases hn : n < 0 ∨ m < n
    · rw [if_pos (by unfold badN; omega)]
      unfold leftOf
      split
      · rename_i t ht
        obtain ⟨k, _, hk⟩ := Option.bind_eq_some_iff.1 ht
        have hN : t.N = n := by
          match k, hk with
          | [], hk => simp [one] at hk; subst hk; rfl
          | [x, y], hk => simp [one] at hk; subst hk; rfl
          | [_], hk => simp [one] at hk
          | _ :: _ :: _ :: _, hk => simp [one] at hk
        rw [if_neg]
        rintro ⟨⟨_, ho⟩, _⟩
        have := okc_N t m ho
        omega
      · rfl
    · cases hk : trees ks with
      | none =>
        simp only [Option.bind_none, leftOf]
        split
        · rfl
        · rw [ih _ _ _ (by omega), hk]; rfl
      | some k =>
        have hlen := trees_len ks k hk
        simp only [Option.bind_some]
        match k, hlen with
        | [], hlen =>
          have e : ks.len = 0 := hlen.symm
          rw [if_neg (by unfold badN; omega), ih _ _ _ (by omega), hk]
          have e1 : (Tr.leaf n).okc m = true := by simp [Tr.okc]; omega
          simp [leftOfs, leftOf, one, sumN, Tr.depth, Tr.nodes, e1]
        | [x, y], hlen =>
          have e : ks.len = 2 := hlen.symm
          by_cases hd : d = 0
          · rw [if_pos (by unfold badN; omega)]
            simp [one, leftOf, Tr.depth, hd]
          · rw [if_neg (by unfold badN; omega), ih _ _ _ (by omega), hk]
            have e1 : (∀ t ∈ [x, y], t.depth ≤ d - 1 ∧ t.okc (m - n) = true) ↔ ((Tr.node n x y).depth ≤ d ∧ (Tr.node n x y).okc m = true) := by
              simp only [List.mem_cons, List.not_mem_nil, or_false, forall_eq_or_imp, forall_eq, Tr.depth, Tr.okc, Bool.and_eq_true_iff, decide_eq_true_eq]
              constructor
              · rintro ⟨⟨a, b⟩, c, d⟩; exact ⟨by omega, by omega, b, d⟩
              · rintro ⟨a, _, b, c⟩; exact ⟨⟨by omega, b⟩, by omega, c⟩
            have e2 : ((sumN [x, y] : Nat) : Int) = ((Tr.node n x y).nodes : Int) - 1 := by simp [sumN, Tr.nodes]
            simp only [leftOfs, leftOf, one, e1, e2]
            by_cases hc : ((Tr.node n x y).depth ≤ d ∧ (Tr.node n x y).okc m = true) ∧ ((Tr.node n x y).nodes : Int) ≤ l
            · rw [if_pos ⟨hc.1, by omega⟩, if_pos hc]; omega
            · rw [if_neg (fun h => hc ⟨h.1, by omega⟩), if_neg hc]
        | [_], hlen =>
          have e : ks.len = 1 := hlen.symm
          rw [if_pos (by unfold badN; omega)]; simp [one, leftOf]
        | _ :: _ :: _ :: r, hlen =>
          have e : ks.len = r.length + 3 := by rw [← hlen]; simp
          rw [if_pos (by unfold badN; omega)]; simp [one, leftOf]
theorem rightK_of : ∀ (f : Fo) (d : Nat) (l m : Int), 0 ≤ l → rightK f d l m = leftOfs (trees f) d l m
  | .nil, d, l, m, h => by simp [rightK, trees, leftOfs, sumN, h]
  | .cons o ks rest, d, l, m, h => by
    rw [rightK_cons, rightT_of o ks d l m h (rightK_of ks)]
    have ihr := rightK_of rest d
    cases hk : (trees ks).bind (one o) with
    | none =>
      have : trees (.cons o ks rest) = none := by
        simp only [trees]
        cases ht : trees ks with
        | none => rfl
        | some k => rw [ht, Option.bind_some] at hk; simp [hk]
      rw [this]
      simp [leftOf, leftOfs]
    | some t =>
      have e : trees (.cons o ks rest) = (trees rest).map (t :: ·) := by
        simp only [trees]
        cases ht : trees ks with
        | none => rw [ht] at hk; cases hk
        | some k => rw [ht, Option.bind_some] at hk; simp [hk]
      rw [e]
      have hp := t.nodes_pos
      by_cases hc : (t.depth ≤ d ∧ t.okc m = true) ∧ (t.nodes : Int) ≤ l
      · have hv : leftOf (some t) d l m = l - t.nodes := if_pos hc
        generalize leftOf (some t) d l m = v at *
        subst hv
        rw [if_neg (by omega), ihr _ _ (by omega)]
        cases hr : trees rest with
        | none => rfl
        | some ts =>
          have es : ((sumN (t :: ts) : Nat) : Int) = t.nodes + sumN ts := by simp [sumN]
          have ed : (∀ x ∈ t :: ts, x.depth ≤ d ∧ x.okc m = true) ↔ (∀ x ∈ ts, x.depth ≤ d ∧ x.okc m = true) := by
            simp only [List.mem_cons, forall_eq_or_imp]
            exact ⟨fun h => h.2, fun h => ⟨hc.1, h⟩⟩
          simp only [leftOfs, Option.map_some, es, ed]
          by_cases h2 : (∀ x ∈ ts, x.depth ≤ d ∧ x.okc m = true) ∧ (sumN ts : Int) ≤ l - t.nodes
          · rw [if_pos h2, if_pos ⟨h2.1, by omega⟩]; omega
          · rw [if_neg h2, if_neg (fun h => h2 ⟨h.1, by omega⟩)]
      · have hv : leftOf (some t) d l m = -1 := if_neg hc
        generalize leftOf (some t) d l m = v at *
        subst hv
        rw [if_pos (by decide)]
        cases hr : trees rest with
        | none => rfl
        | some ts =>
          have es : ((sumN (t :: ts) : Nat) : Int) = t.nodes + sumN ts := by simp [sumN]
          simp only [leftOfs, Option.map_some]
          rw [if_neg]
          rintro ⟨h1, h2⟩
          exact hc ⟨h1 t List.mem_cons_self, by omega⟩
theorem rightT_le (n : Int) (ks : Fo) (d : Nat) (l m : Int) (hl : 0 ≤ l) : -1 ≤ rightT n ks d l m ∧ rightT n ks d l m ≤ l := by
  rw [rightT_of n ks d l m hl (rightK_of ks)]
  unfold leftOf
  split
  · split <;> omega
  · omega
/-- The greatest count. -/
def mc : Int := 4611686018427387904
/-- Is a tree right? -/
def okT (t : Tr) : Bool := decide (t.depth ≤ 32) && (t.okc mc && decide (t.nodes ≤ 2047))
theorem okT_iff (t : Tr) : okT t = true ↔ t.depth ≤ 32 ∧ t.okc mc = true ∧ t.nodes ≤ 2047 := by simp [okT]
/-- The right tree that came in, if it is one. -/
def treeOf (n : Int) (ks : Fo) : Option Tr := ((trees ks).bind (one n)).filter okT
theorem rightT_full (n : Int) (ks : Fo) : (0 ≤ rightT n ks 32 2047 mc) = ((treeOf n ks).isSome = true) := by
  rw [rightT_of n ks 32 2047 mc (by decide) (rightK_of ks)]
  unfold treeOf
  cases (trees ks).bind (one n) with
  | none => simp [leftOf, Option.filter]
  | some t =>
    simp only [leftOf, Option.filter]
    by_cases h : (t.depth ≤ 32 ∧ t.okc mc = true) ∧ (t.nodes : Int) ≤ 2047
    · have e : okT t = true := (okT_iff t).2 ⟨h.1.1, h.1.2, by omega⟩
      rw [if_pos h, if_pos e]; simp; omega
    · have e : ¬ okT t = true := fun h2 => h ⟨⟨((okT_iff t).1 h2).1, ((okT_iff t).1 h2).2.1⟩, by have := ((okT_iff t).1 h2).2.2; omega⟩
      rw [if_neg h, if_neg e]; simp

/-- What the program's walk hands on: N, how many kids, depth, what is above. -/
theorem wrap64_id {x : Int} (h1 : -9223372036854775808 ≤ x) (h2 : x ≤ 9223372036854775807) : wrap64 x = x := IntWalk.wrap64_in x ⟨h1, h2⟩
abbrev Key := Int × Nat × Int × Int
def walkK : Fo → Int → Int → List Key
  | .nil, _, _ => []
  | .cons n ks rest, d, s => (n, ks.len, d, s) :: (walkK ks (wrap64 (d + 1)) (wrap64 (s + n)) ++ walkK rest d s)
def walkT (n : Int) (ks : Fo) (d s : Int) : List Key := (n, ks.len, d, s) :: walkK ks (wrap64 (d + 1)) (wrap64 (s + n))
theorem walkK_cons (n : Int) (ks rest : Fo) (d s : Int) : walkK (.cons n ks rest) d s = walkT n ks d s ++ walkK rest d s := rfl
def okN (n : Int) (k : Nat) : Bool := decide (0 ≤ n) && (decide (k = 0) || decide (k = 2))
def fitsB (n d s : Int) : Bool := decide (d ≤ 32) && decide (n ≤ wrap64 (mc - s))
def goodK (k : Key) : Bool := okN k.1 k.2.1 && fitsB k.1 k.2.2.1 k.2.2.2
def okL (l : List Key) : Bool := l.all goodK && decide (l.length ≤ 2047)
def deepB (d s : Int) (t : Tr) : Bool := decide (d + t.depth ≤ 32) && t.okc (mc - s)
def deepOk (d s : Int) : Option (List Tr) → Bool
  | some ts => ts.all (deepB d s)
  | none => false
def deepT (d s : Int) : Option Tr → Bool
  | some t => deepB d s t
  | none => false
theorem one_all (n : Int) (ks : Fo) (d s : Int) (hs : 0 ≤ s) (hs2 : s ≤ mc) : (goodK (n, ks.len, d, s) && deepOk (d + 1) (s + n) (trees ks)) = deepT d s ((trees ks).bind (one n)) := by
  have hm : mc = 4611686018427387904 := rfl
  have hw : wrap64 (mc - s) = mc - s := wrap64_id (by omega) (by omega)
  simp only [goodK, okN, fitsB, hw]
  cases ht : trees ks with
  | none => simp [deepOk, deepT]
  | some ts =>
    have hl := trees_len ks ts ht
    rw [← hl]
    simp only [Option.bind_some]
    match ts with
    | [] =>
      simp only [deepOk, one, deepT, deepB, Tr.depth, Tr.okc, List.length_nil, List.all_nil]
      rw [Bool.eq_iff_iff]
      simp
      omega
    | [x] => simp [one, deepT]
    | [x, y] =>
      have hD : (Tr.node n x y).depth = max x.depth y.depth + 1 := rfl
      simp only [deepOk, one, deepT, deepB, Tr.okc, List.length_cons, List.length_nil, List.all_cons, List.all_nil]
      generalize (Tr.node n x y).depth = D at hD ⊢
      rw [show mc - (s + n) = mc - s - n by omega, Bool.eq_iff_iff]
      simp
      constructor
      · rintro ⟨⟨a, b, c⟩, ⟨d1, e⟩, f, g⟩; exact ⟨by omega, ⟨a, c⟩, e, g⟩
      · rintro ⟨a, ⟨b, c⟩, e, g⟩; exact ⟨⟨b, by omega, c⟩, ⟨by omega, e⟩, by omega, g⟩
    | x :: y :: z :: r => simp [one, deepT]
theorem deep_cons (n : Int) (ks rest : Fo) (d s : Int) : deepOk d s (trees (.cons n ks rest)) = (deepT d s ((trees ks).bind (one n)) && deepOk d s (trees rest)) := by
  simp only [trees]
  cases trees ks with
  | none => simp [deepT, deepOk]
  | some k =>
    simp only [Option.bind_some]
    cases one n k with
    | none => simp [deepT, deepOk]
    | some t =>
      simp only [Option.bind_some, deepT]
      cases trees rest with
      | none => simp [deepOk]
      | some ts => simp [deepOk]
theorem walkK_all : ∀ (f : Fo) (d s : Int), 0 ≤ d → d ≤ 33 → 0 ≤ s → s ≤ mc → (walkK f d s).all goodK = deepOk d s (trees f)
  | .nil, d, s, _, _, _, _ => rfl
  | .cons n ks rest, d, s, h0, h1, h2, h3 => by
    have hm : mc = 4611686018427387904 := rfl
    have ih2 := walkK_all rest d s h0 h1 h2 h3
    rw [deep_cons, ← one_all n ks d s h2 h3]
    simp only [walkK, List.all_cons, List.all_append, ih2]
    by_cases hg : goodK (n, ks.len, d, s) = true
    · have hg2 := hg
      simp only [goodK, okN, fitsB, Bool.and_eq_true_iff, decide_eq_true_eq, wrap64_id (x := mc - s) (by omega) (by omega)] at hg2
      have ih1 := walkK_all ks (d + 1) (s + n) (by omega) (by omega) (by omega) (by omega)
      rw [wrap64_id (x := d + 1) (by omega) (by omega), wrap64_id (x := s + n) (by omega) (by omega), ih1, hg]
      simp
    · simp only [Bool.not_eq_true] at hg
      rw [hg]; simp
theorem one_nodes (n : Int) (ts : List Tr) (t : Tr) (h : one n ts = some t) : t.nodes = sumN ts + 1 := by
  match ts, h with
  | [], h => simp [one] at h; subst h; rfl
  | [x], h => simp [one] at h
  | [x, y], h => simp [one] at h; subst h; simp [Tr.nodes, sumN]
  | x :: y :: z :: r, h => simp [one] at h
theorem walkK_len : ∀ (f : Fo) (ts : List Tr) (d s : Int), trees f = some ts → (walkK f d s).length = sumN ts
  | .nil, ts, d, s, h => by simp [trees] at h; subst h; rfl
  | .cons o ks rest, ts, d, s, h => by
    simp only [trees] at h
    obtain ⟨k, hk, h⟩ := Option.bind_eq_some_iff.1 h
    obtain ⟨t, ht, h⟩ := Option.bind_eq_some_iff.1 h
    obtain ⟨r, hr, rfl⟩ := Option.map_eq_some_iff.1 h
    have i1 := walkK_len ks k (wrap64 (d + 1)) (wrap64 (s + o)) hk
    have i2 := walkK_len rest r d s hr
    have i3 := one_nodes o k t ht
    simp only [walkK, List.length_cons, List.length_append, i1, i2, sumN, List.map_cons, List.sum_cons]
    unfold sumN at i3
    omega
theorem okL_tree (n : Int) (ks : Fo) : okL (walkT n ks 0 0) = (treeOf n ks).isSome := by
  have hm : mc = 4611686018427387904 := rfl
  have h1 : (walkT n ks 0 0).all goodK = deepT 0 0 ((trees ks).bind (one n)) := by
    have := walkK_all (.cons n ks .nil) 0 0 (by decide) (by decide) (by decide) (by decide)
    rw [deep_cons] at this
    simpa [walkK, walkT, trees, deepOk] using this
  unfold okL treeOf
  rw [h1]
  cases hk : trees ks with
  | none => rfl
  | some k =>
    simp only [Option.bind_some]
    cases ho : one n k with
    | none => rfl
    | some t =>
      have hl : (walkT n ks 0 0).length = t.nodes := by
        unfold walkT
        rw [List.length_cons, walkK_len ks k _ _ hk, one_nodes n k t ho]
      rw [hl]
      simp only [deepT, deepB, Option.filter_some]
      by_cases h1 : okT t = true
      · have h2 := (okT_iff t).1 h1
        rw [if_pos h1]; simp [h2]; omega
      · rw [if_neg h1]
        simp only [okT_iff] at h1
        simp
        intro a b
        have : ¬ t.nodes ≤ 2047 := fun c => h1 ⟨by omega, b, c⟩
        omega
/-- A right tree, or none. -/
def fit (t : Tr) : Option Tr := if okT t = true then some t else none
theorem fit_some (t : Tr) : (fit t).isSome = okT t := by unfold fit; split <;> simp_all
theorem fit_of {t : Tr} (h : okT t = true) : fit t = some t := if_pos h
theorem fit_eq {t s : Tr} (h : fit t = some s) : s = t ∧ okT t = true := by
  unfold fit at h
  split at h
  · rename_i h1; injection h with h; exact ⟨h.symm, h1⟩
  · cases h
theorem okT_norm {t : Tr} (h : okT t = true) : okT t.norm = true := by
  have h := (okT_iff t).1 h
  exact (okT_iff _).2 ⟨Nat.le_trans (norm_depth t) h.1, okc_norm h.2.1, Nat.le_trans (norm_nodes t) h.2.2⟩
end Go.Proofs.YtflghlmikpfnpaaDoor.E
