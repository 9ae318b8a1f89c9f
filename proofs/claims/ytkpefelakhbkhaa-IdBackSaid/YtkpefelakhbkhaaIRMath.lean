/-
  What the program's Right looks at, node by node, is what the document calls right.
-/
import Derived.Test.YtkpefelakhbkhaaIRight
namespace Go.Proofs.Ytkpefelakhbkhaa.I
open Go.RowKit

theorem nx_small (d : Int) (h0 : 0 ≤ d) (h : d ≤ 1000) : nx d = d + 1 := by unfold nx wrap64; omega

def deepOk (d : Int) : Option (List Tr) → Bool
  | some ts => ts.all fun t => decide (d + t.depth ≤ 32)
  | none => false
def deepT (d : Int) : Option Tr → Bool
  | some t => decide (d + t.depth ≤ 32)
  | none => false

theorem one_all (o : Bool) (ks : Fo) (d : Int) (_hd : d ≤ 32) : (okN o ks.len && deepOk (d + 1) (trees ks)) = deepT d ((trees ks).bind (one o)) := by
  cases ht : trees ks with
  | none => simp [deepOk, deepT]
  | some ts =>
    have hl := trees_len ks ts ht
    rw [← hl]
    simp only [Option.bind_some]
    match ts with
    | [] => simp [okN, deepOk, one, deepT, Tr.depth]; omega
    | [x] => simp [okN, one, deepT]
    | [x, y] =>
      cases o
      · have e : (Tr.node x y).depth = max x.depth y.depth + 1 := rfl
        simp only [okN, deepOk, one, deepT, List.length_cons, List.length_nil, List.all_cons, List.all_nil]
        simp
        rw [← Bool.decide_and]
        exact decide_eq_decide.2 (by rw [e]; omega)
      · simp [okN, one, deepT]
    | x :: y :: z :: r => simp [okN, one, deepT]

theorem walkK_all : ∀ (f : Fo) (d : Int), 0 ≤ d → d ≤ 33 → (walkK f d).all goodK = deepOk d (trees f)
  | .nil, d, _, _ => rfl
  | .cons o ks rest, d, h0, h1 => by
    by_cases hd : d ≤ 32
    · have ih1 := walkK_all ks (nx d) (by rw [nx_small d h0 (by omega)]; omega) (by rw [nx_small d h0 (by omega)]; omega)
      have ih2 := walkK_all rest d h0 h1
      have key := one_all o ks d hd
      simp only [walkK, List.all_cons, List.all_append, ih1, ih2, goodK, decide_eq_true hd, Bool.and_true]
      rw [nx_small d h0 (by omega), ← Bool.and_assoc, key]
      simp only [trees]
      cases trees ks with
      | none => simp [deepT, deepOk]
      | some k =>
        simp only [Option.bind_some]
        cases one o k with
        | none => simp [deepT, deepOk]
        | some t =>
          simp only [Option.bind_some, deepT]
          cases trees rest with
          | none => simp [deepOk]
          | some ts => simp [deepOk]
    · obtain rfl : d = 33 := by omega
      simp only [walkK, List.all_cons, goodK]
      rw [decide_eq_false hd]
      simp only [Bool.and_false, Bool.false_and, trees]
      cases trees ks with
      | none => simp [deepOk]
      | some k =>
        simp only [Option.bind_some]
        cases one o k with
        | none => simp [deepOk]
        | some t =>
          simp only [Option.bind_some]
          cases trees rest with
          | none => simp [deepOk]
          | some ts =>
            simp only [Option.map_some, deepOk, List.all_cons]
            rw [decide_eq_false (by omega), Bool.false_and]

theorem one_nodes (o : Bool) (ts : List Tr) (t : Tr) (h : one o ts = some t) : t.nodes = sumN ts + 1 := by
  match ts, h with
  | [], h => simp [one] at h; subst h; rfl
  | [x], h => simp [one] at h
  | [x, y], h =>
    cases o
    · simp [one] at h; subst h; simp [Tr.nodes, sumN]
    · simp [one] at h
  | x :: y :: z :: r, h => simp [one] at h
theorem walkK_len : ∀ (f : Fo) (ts : List Tr) (d : Int), trees f = some ts → (walkK f d).length = sumN ts
  | .nil, ts, d, h => by simp [trees] at h; subst h; rfl
  | .cons o ks rest, ts, d, h => by
    simp only [trees] at h
    cases hk : trees ks with
    | none => rw [hk] at h; simp at h
    | some k =>
      rw [hk] at h
      simp only [Option.bind_some] at h
      cases ho : one o k with
      | none => rw [ho] at h; simp at h
      | some t =>
        rw [ho] at h
        simp only [Option.bind_some] at h
        cases hr : trees rest with
        | none => rw [hr] at h; simp at h
        | some ts' =>
          rw [hr] at h
          simp at h
          subst h
          have i1 := walkK_len ks k (nx d) hk
          have i2 := walkK_len rest ts' d hr
          have i3 := one_nodes o k t ho
          simp only [walkK, List.length_cons, List.length_append, i1, i2, sumN, List.map_cons, List.sum_cons]
          unfold sumN at i3
          omega
theorem okL_tree (o : Bool) (ks : Fo) : okL (walkT o ks 0) = (treeOf o ks).isSome := by
  have h1 : (walkT o ks 0).all goodK = deepT 0 ((trees ks).bind (one o)) := by
    unfold walkT
    rw [List.all_cons, nx_small 0 (by decide) (by decide), walkK_all ks (0 + 1) (by decide) (by decide), ← one_all o ks 0 (by decide)]
    simp [goodK]
  unfold okL treeOf
  rw [h1]
  cases hk : trees ks with
  | none => rfl
  | some k =>
    simp only [Option.bind_some]
    cases ho : one o k with
    | none => rfl
    | some t =>
      have hl : (walkT o ks 0).length = t.nodes := by
        unfold walkT
        rw [List.length_cons, walkK_len ks k _ hk, one_nodes o k t ho]
      rw [hl]
      simp only [deepT, Option.filter_some]
      by_cases h1 : t.depth ≤ 32
      · by_cases h2 : t.nodes ≤ 2047
        · simp [h1, h2]; omega
        · simp [h2]
      · simp [h1]; intro h; omega
theorem right_any (o : Bool) (ks : Fo) (A : Option Addr) (c : Nat) (w : World) (hk : Kd w w.heap.size ks A) :
    Calls Try.prog 17 #[tv o A ks.len c] w fun e w' => e = .returned (.bool (treeOf o ks).isSome) ∧ Below w.heap.size w w' := by
  rw [← okL_tree]; exact right_walk o ks A c w hk
theorem right_tr (t : Tr) (v : Value) (w : World) (h : InT w w.heap.size t v) : Calls Try.prog 17 #[v] w fun e w' => e = .returned (.bool (decide (t.depth ≤ 32) && decide (t.nodes ≤ 2047))) ∧ Below w.heap.size w w' := by
  obtain ⟨o, ks, A, c, rfl, hk, ht⟩ := unT h
  refine (right_any o ks A c w hk).mono fun e w' ⟨he, hb⟩ => ⟨?_, hb⟩
  rw [he]
  unfold treeOf
  rw [ht, Option.filter_some]
  split <;> simp_all
end Go.Proofs.Ytkpefelakhbkhaa.I
