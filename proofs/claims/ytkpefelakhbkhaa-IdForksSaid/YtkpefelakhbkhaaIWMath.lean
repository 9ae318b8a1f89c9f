/-
  Plain facts on lists of trees: is each point in just one of them? No program here.
-/
import Derived.Test.YtkpefelakhbkhaaIDen
namespace Go.Proofs.Ytkpefelakhbkhaa.I

/-- In how many of the trees is a point? -/
def cnt : List Tr → (Nat → Bool) → Nat
  | [], _ => 0
  | t :: L, f => (if den t f = true then 1 else 0) + cnt L f
theorem cnt_append : ∀ (L M : List Tr) (f : Nat → Bool), cnt (L ++ M) f = cnt L f + cnt M f
  | [], M, f => by simp [cnt]
  | t :: L, M, f => by simp only [List.cons_append, cnt, cnt_append L M f]; omega
theorem cnt_zero : ∀ (L : List Tr), (L.all (onlyT false) = true) ↔ ∀ f, cnt L f = 0
  | [] => by simp [cnt]
  | t :: L => by
    rw [List.all_cons, Bool.and_eq_true_iff, onlyT_den, cnt_zero L]
    constructor
    · rintro ⟨h1, h2⟩ f
      simp [cnt, h1 f, h2 f]
    · intro h
      refine ⟨fun f => ?_, fun f => ?_⟩
      · have := h f
        simp only [cnt] at this
        cases e : den t f with
        | false => rfl
        | true => rw [e] at this; simp at this
      · have := h f
        simp only [cnt] at this
        omega
def isOne : Tr → Bool
  | .leaf true => true
  | _ => false
def kidL : Tr → List Tr
  | .node l _ => [l]
  | _ => []
def kidR : Tr → List Tr
  | .node _ r => [r]
  | _ => []
/-- Down all trees at once. -/
def cov : Nat → List Tr → Bool
  | 0, _ => false
  | n + 1, L => match L.findIdx? isOne with
    | some i => (L.take i).all (onlyT false) && (L.drop (i + 1)).all (onlyT false)
    | none => decide (0 < (L.flatMap kidL).length) && cov n (L.flatMap kidL) && cov n (L.flatMap kidR)
theorem cnt_kids : ∀ (L : List Tr), (∀ t ∈ L, isOne t = false) → ∀ f, cnt L (ct false f) = cnt (L.flatMap kidL) f ∧ cnt L (ct true f) = cnt (L.flatMap kidR) f
  | [], _, f => ⟨rfl, rfl⟩
  | t :: L, h, f => by
    obtain ⟨h1, h2⟩ := cnt_kids L (fun x hx => h x (List.mem_cons_of_mem _ hx)) f
    rw [List.flatMap_cons, List.flatMap_cons, cnt_append, cnt_append, cnt, cnt, h1, h2]
    cases t with
    | leaf o =>
      cases o with
      | false => simp [den, kidL, kidR, cnt]
      | true => have := h _ List.mem_cons_self; simp [isOne] at this
    | node l r => rw [den_false, den_true]; simp [kidL, kidR, cnt]
theorem ct_tl (f : Nat → Bool) : ct (f 0) (tl f) = f := by
  funext n
  cases n <;> rfl
theorem sumN_append (L M : List Tr) : sumN (L ++ M) = sumN L + sumN M := by simp [sumN]
theorem kids_less : ∀ (L : List Tr), sumN (L.flatMap kidL) + (L.flatMap kidL).length ≤ sumN L ∧ sumN (L.flatMap kidR) + (L.flatMap kidR).length ≤ sumN L ∧ (L.flatMap kidL).length = (L.flatMap kidR).length
  | [] => by simp [sumN]
  | t :: L => by
    obtain ⟨h1, h2, h3⟩ := kids_less L
    have e : sumN (t :: L) = t.nodes + sumN L := by simp [sumN]
    rw [List.flatMap_cons, List.flatMap_cons, sumN_append, sumN_append, List.length_append, List.length_append, e]
    cases t with
    | leaf o => simp [kidL, kidR, sumN] at *; omega
    | node l r =>
      have := r.nodes_pos
      have := l.nodes_pos
      simp only [kidL, kidR, List.length_singleton, Tr.nodes]
      have e1 : sumN [l] = l.nodes := by simp [sumN]
      have e2 : sumN [r] = r.nodes := by simp [sumN]
      omega
theorem cov_iff : ∀ (n : Nat) (L : List Tr), sumN L < n → (cov n L = true ↔ ∀ f, cnt L f = 1)
  | 0, L, h => by omega
  | n + 1, L, h => by
    simp only [cov]
    cases hx : L.findIdx? isOne with
    | some i =>
      simp only
      obtain ⟨hi, h1, _⟩ := List.findIdx?_eq_some_iff_getElem.1 hx
      have e : L = L.take i ++ (L[i] :: L.drop (i + 1)) := by rw [← List.drop_eq_getElem_cons hi, List.take_append_drop]
      have e1 : L[i] = .leaf true := by
        cases hl : L[i] with
        | leaf o => cases o with
          | true => rfl
          | false => rw [hl] at h1; simp [isOne] at h1
        | node _ _ => rw [hl] at h1; simp [isOne] at h1
      rw [Bool.and_eq_true_iff, cnt_zero, cnt_zero]
      have ec : ∀ f, cnt L f = cnt (L.take i) f + (1 + cnt (L.drop (i + 1)) f) := fun f => by
        conv => lhs; rw [e, cnt_append, cnt, e1]
        simp [den]
      constructor
      · rintro ⟨k1, k2⟩ f; rw [ec, k1, k2]
      · intro k
        refine ⟨fun f => ?_, fun f => ?_⟩
        · have := k f; rw [ec] at this; omega
        · have := k f; rw [ec] at this; omega
    | none =>
      simp only
      have hno : ∀ t ∈ L, isOne t = false := fun t ht => by
        have := List.findIdx?_eq_none_iff.1 hx t ht
        simpa using this
      obtain ⟨l1, l2, l3⟩ := kids_less L
      have hk := cnt_kids L hno
      by_cases h0 : 0 < (L.flatMap kidL).length
      · rw [decide_eq_true h0, Bool.true_and, Bool.and_eq_true_iff, cov_iff n _ (by omega), cov_iff n _ (by omega)]
        constructor
        · rintro ⟨k1, k2⟩ f
          have ef := ct_tl f
          cases hf : f 0 with
          | false => rw [hf] at ef; rw [← ef, (hk (tl f)).1, k1]
          | true => rw [hf] at ef; rw [← ef, (hk (tl f)).2, k2]
        · intro k
          exact ⟨fun f => by rw [← (hk f).1, k], fun f => by rw [← (hk f).2, k]⟩
      · rw [decide_eq_false h0]
        simp only [Bool.false_and, Bool.false_eq_true, false_iff]
        intro k
        have := k (ct false fun _ => false)
        rw [(hk _).1, List.eq_nil_of_length_eq_zero (l := L.flatMap kidL) (by omega)] at this
        simp [cnt] at this
/-- At most 64 trees, all right, and each point in just one. -/
def WholeP (L : List (Option Tr)) : Prop := L.length ≤ 64 ∧ ∃ ts : List Tr, L = ts.map some ∧ ∀ f, cnt ts f = 1
theorem meas_sum : ∀ (a b : Tr) (k : Nat), a.depth ≤ k → b.depth ≤ k → bothT a b = false → (sumT a b).meas k = a.meas k + b.meas k ∧ (sumT a b).depth ≤ k
  | .leaf false, b, k, _, hb, _ => by cases b <;> simp [sumT, Tr.meas, hb]
  | .leaf true, b, k, _, hb, h => by
    have h1 : b.norm = .leaf false := by
      rw [bothT] at h
      have h2 : eqT b.norm (.leaf false) = true := by simpa using h
      exact (eqT_iff _ _).1 h2
    simp [sumT, Tr.meas, (Tr.meas_zero b k hb).2 h1, Tr.depth]
  | .node l r, .leaf false, k, ha, _, _ => by simp [sumT, ha, Tr.meas]
  | .node l r, .leaf true, k, ha, _, h => by
    have h1 : (Tr.node l r).norm = .leaf false := by
      rw [bothT] at h
      have h2 : eqT (Tr.node l r).norm (.leaf false) = true := by simpa using h
      exact (eqT_iff _ _).1 h2
    rw [(Tr.meas_zero _ k ha).2 h1]
    simp [sumT, Tr.meas, Tr.depth]
  | .node l r, .node c d, 0, ha, _, _ => by simp [Tr.depth] at ha
  | .node l r, .node c d, k + 1, ha, hb, h => by
    simp only [Tr.depth] at ha hb
    rw [bothT, Bool.or_eq_false_iff] at h
    obtain ⟨m1, d1⟩ := meas_sum l c k (by omega) (by omega) h.1
    obtain ⟨m2, d2⟩ := meas_sum r d k (by omega) (by omega) h.2
    simp only [sumT, Tr.meas, Tr.depth, m1, m2]
    omega
/-- The measures of all; apart from one another. -/
def total (L : List Tr) : Nat := (L.map fun t => t.meas 32).sum
def apartL : List Tr → Prop
  | [] => True
  | t :: L => (∀ s ∈ L, bothT t s = false) ∧ apartL L
theorem cnt_pos : ∀ (L : List Tr) (f : Nat → Bool), 0 < cnt L f ↔ ∃ t ∈ L, den t f = true
  | [], f => by simp [cnt]
  | t :: L, f => by
    simp only [cnt, List.mem_cons, exists_eq_or_imp, ← cnt_pos L f]
    cases den t f <;> simp <;> omega
/-- One tree for all of them. -/
theorem all_sum : ∀ (L : List Tr), (∀ t ∈ L, t.depth ≤ 32) → apartL L → ∃ U : Tr, U.depth ≤ 32 ∧ U.meas 32 = total L ∧ ∀ f, cnt L f = if den U f = true then 1 else 0
  | [], _, _ => ⟨.leaf false, by simp [Tr.depth], rfl, fun f => by simp [cnt, den]⟩
  | t :: L, hd, ha => by
    obtain ⟨U, h1, h2, h3⟩ := all_sum L (fun x hx => hd x (List.mem_cons_of_mem _ hx)) ha.2
    have hb : bothT t U = false := by
      rw [both_false]
      intro f hf
      cases e : den U f with
      | false => rfl
      | true =>
        have := h3 f
        rw [e] at this
        simp only [if_true] at this
        obtain ⟨s, hs, hds⟩ := (cnt_pos L f).1 (by omega)
        have := (both_false t s).1 (ha.1 s hs) f hf
        rw [this] at hds; cases hds
    obtain ⟨m1, d1⟩ := meas_sum t U 32 (hd t List.mem_cons_self) h1 hb
    refine ⟨sumT t U, d1, by rw [m1, h2]; simp [total], fun f => ?_⟩
    rw [cnt, h3, den_sum]
    have := (both_false t U).1 hb f
    cases e1 : den t f with
    | false => cases e2 : den U f <;> simp
    | true => rw [this e1]; simp
theorem apart_iff : ∀ (L : List Tr), apartL L ↔ ∀ f, cnt L f ≤ 1
  | [] => by simp [apartL, cnt]
  | t :: L => by
    simp only [apartL, apart_iff L]
    constructor
    · rintro ⟨h1, h2⟩ f
      simp only [cnt]
      cases e : den t f with
      | false => simpa using h2 f
      | true =>
        have : ¬ 0 < cnt L f := fun hp => by
          obtain ⟨s, hs, hds⟩ := (cnt_pos L f).1 hp
          rw [(both_false t s).1 (h1 s hs) f e] at hds; cases hds
        simp; omega
    · intro h
      refine ⟨fun s hs => ?_, fun f => ?_⟩
      · rw [both_false]
        intro f hf
        cases e : den s f with
        | false => rfl
        | true =>
          have := h f
          have hp := (cnt_pos L f).2 ⟨s, hs, e⟩
          simp only [cnt, hf, if_true] at this
          omega
      · have := h f
        simp only [cnt] at this
        omega
theorem whole_iff (L : List Tr) (hd : ∀ t ∈ L, t.depth ≤ 32) : (apartL L ∧ total L = 2 ^ 32) ↔ ∀ f, cnt L f = 1 := by
  constructor
  · rintro ⟨h1, h2⟩ f
    obtain ⟨U, k1, k2, k3⟩ := all_sum L hd h1
    rw [h2] at k2
    have := (den_all U true).2 ((Tr.meas_full U 32 k1).1 k2) f
    rw [k3, this]; rfl
  · intro h
    have ha : apartL L := (apart_iff L).2 fun f => by rw [h f]; exact Nat.le_refl _
    refine ⟨ha, ?_⟩
    obtain ⟨U, k1, k2, k3⟩ := all_sum L hd ha
    rw [← k2]
    refine (Tr.meas_full U 32 k1).2 ((den_all U true).1 fun f => ?_)
    have := k3 f
    rw [h f] at this
    cases e : den U f with
    | true => rfl
    | false => rw [e] at this; simp at this
end Go.Proofs.Ytkpefelakhbkhaa.I
