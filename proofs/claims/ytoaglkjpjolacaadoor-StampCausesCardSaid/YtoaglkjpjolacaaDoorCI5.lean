/-
  Plain facts on lists of trees: is each point in just one of them? No program here.
-/
import Derived.Test.YtoaglkjpjolacaaDoorCI4
import Derived.Maps.AppendAt
namespace Go.Proofs.YtoaglkjpjolacaaDoor.I
/-- In how many of the trees is a point? -/
def cnt : List Tr → (Nat → Bool) → Nat
  | [], _ => 0
  | t :: L, f => (if den t f = true then 1 else 0) + cnt L f
theorem cnt_append : ∀ (L M : List Tr) (f : Nat → Bool), cnt (L ++ M) f = cnt L f + cnt M f
  | [], M, f => by simp [cnt]
  | t :: L, M, f => by simp only [List.cons_append, cnt, cnt_append L M f]; omega
theorem cnt_zero : ∀ (L : List Tr), (L.all (onlyT false) = true) ↔ ∀ f, cnt L f = 0
  | [] => by simp [cnt]
  | t :: L => by
    rw [List.all_cons, Bool.and_eq_true_iff, onlyT_den, cnt_zero L]
    constructor
    · rintro ⟨h1, h2⟩ f
      simp [cnt, h1 f, h2 f]
    · intro h
      refine ⟨fun f => ?_, fun f => ?_⟩
      · have := h f
        simp only [cnt] at this
        cases e : den t f with
        | false => rfl
        | true => rw [e] at this; simp at this
      · have := h f
        simp only [cnt] at this
        omega
def isOne : Tr → Bool
  | .leaf true => true
  | _ => false
def kidL : Tr → List Tr
  | .node l _ => [l]
  | _ => []
def kidR : Tr → List Tr
  | .node _ r => [r]
  | _ => []
/-- Down all trees at once. -/
def cov : Nat → List Tr → Bool
  | 0, _ => false
  | n + 1, L => match L.findIdx? isOne with
    | some i => (L.take i).all (onlyT false) && (L.drop (i + 1)).all (onlyT false)
    | none => decide (0 < (L.flatMap kidL).length) && cov n (L.flatMap kidL) && cov n (L.flatMap kidR)
theorem cnt_kids : ∀ (L : List Tr), (∀ t ∈ L, isOne t = false) → ∀ f, cnt L (ct false f) = cnt (L.flatMap kidL) f ∧ cnt L (ct true f) = cnt (L.flatMap kidR) f
  | [], _, f => ⟨rfl, rfl⟩
  | t :: L, h, f => by
    obtain ⟨h1, h2⟩ := cnt_kids L (fun x hx => h x (List.mem_cons_of_mem _ hx)) f
    rw [List.flatMap_cons, List.flatMap_cons, cnt_append, cnt_append, cnt, cnt, h1, h2]
    cases t with
    | leaf o =>
      cases o with
      | false => simp [den, kidL, kidR, cnt]
      | true => have := h _ List.mem_cons_self; simp [isOne] at this
    | node l r => rw [den_false, den_true]; simp [kidL, kidR, cnt]
theorem ct_tl (f : Nat → Bool) : ct (f 0) (tl f) = f := by
  funext n
  cases n <;> rfl
theorem sumN_append (L M : List Tr) : sumN (L ++ M) = sumN L + sumN M := by simp [sumN]
theorem kids_less : ∀ (L : List Tr), sumN (L.flatMap kidL) + (L.flatMap kidL).length ≤ sumN L ∧ sumN (L.flatMap kidR) + (L.flatMap kidR).length ≤ sumN L ∧ (L.flatMap kidL).length = (L.flatMap kidR).length
  | [] => by simp [sumN]
  | t :: L => by
    obtain ⟨h1, h2, h3⟩ := kids_less L
    have e : sumN (t :: L) = t.nodes + sumN L := by simp [sumN]
    rw [List.flatMap_cons, List.flatMap_cons, sumN_append, sumN_append, List.length_append, List.length_append, e]
    cases t with
    | leaf o => simp [kidL, kidR, sumN] at *; omega
    | node l r =>
      have := r.nodes_pos
      have := l.nodes_pos
      simp only [kidL, kidR, List.length_singleton, Tr.nodes]
      have e1 : sumN [l] = l.nodes := by simp [sumN]
      have e2 : sumN [r] = r.nodes := by simp [sumN]
      omega
theorem cov_iff : ∀ (n : Nat) (L : List Tr), sumN L < n → (cov n L = true ↔ ∀ f, cnt L f = 1)
  | 0, L, h => by omega
  | n + 1, L, h => by
    simp only [cov]
    cases hx : L.findIdx? isOne with
    | some i =>
      simp only
      obtain ⟨hi, h1, _⟩ := List.findIdx?_eq_some_iff_getElem.1 hx
      have e : L = L.take i ++ (L[i] :: L.drop (i + 1)) := by rw [← List.drop_eq_getElem_cons hi, List.take_append_drop]
      have e1 : L[i] = .leaf true := by
        cases hl : L[i] with
        | leaf o => cases o with
          | true => rfl
          | false => rw [hl] at h1; simp [isOne] at h1
        | node _ _ => rw [hl] at h1; simp [isOne] at h1
      rw [Bool.and_eq_true_iff, cnt_zero, cnt_zero]
      have ec : ∀ f, cnt L f = cnt (L.take i) f + (1 + cnt (L.drop (i + 1)) f) := fun f => by
        conv => lhs; rw [e, cnt_append, cnt, e1]
        simp [den]
      constructor
      · rintro ⟨k1, k2⟩ f; rw [ec, k1, k2]
      · intro k
        refine ⟨fun f => ?_, fun f => ?_⟩
        · have := k f; rw [ec] at this; omega
        · have := k f; rw [ec] at this; omega
    | none =>
      simp only
      have hno : ∀ t ∈ L, isOne t = false := fun t ht => by
        have := List.findIdx?_eq_none_iff.1 hx t ht
        simpa using this
      obtain ⟨l1, l2, l3⟩ := kids_less L
      have hk := cnt_kids L hno
      by_cases h0 : 0 < (L.flatMap kidL).length
      · rw [decide_eq_true h0, Bool.true_and, Bool.and_eq_true_iff, cov_iff n _ (by omega), cov_iff n _ (by omega)]
        constructor
        · rintro ⟨k1, k2⟩ f
          have ef := ct_tl f
          cases hf : f 0 with
          | false => rw [hf] at ef; rw [← ef, (hk (tl f)).1, k1]
          | true => rw [hf] at ef; rw [← ef, (hk (tl f)).2, k2]
        · intro k
          exact ⟨fun f => by rw [← (hk f).1, k], fun f => by rw [← (hk f).2, k]⟩
      · rw [decide_eq_false h0]
        simp only [Bool.false_and, Bool.false_eq_true, false_iff]
        intro k
        have := k (ct false fun _ => false)
        rw [(hk _).1, List.eq_nil_of_length_eq_zero (l := L.flatMap kidL) (by omega)] at this
        simp [cnt] at this
/-- At most 64 trees, all right, and each point in just one. -/
def WholeP (L : List (Option Tr)) : Prop := L.length ≤ 64 ∧ ∃ ts : List Tr, L = ts.map some ∧ ∀ f, cnt ts f = 1
theorem cnt_pos : ∀ (L : List Tr) (f : Nat → Bool), 0 < cnt L f ↔ ∃ t ∈ L, den t f = true
  | [], f => by simp [cnt]
  | t :: L, f => by
    simp only [cnt, List.mem_cons, exists_eq_or_imp, ← cnt_pos L f]
    cases den t f <;> simp <;> omega
end Go.Proofs.YtoaglkjpjolacaaDoor.I
namespace Go.Proofs.YtoaglkjpjolacaaDoor.I
open Go.RowKit
/-- A tree's two cells. -/
structure El where
  o : Bool
  A : Option Addr
  n : Nat
  c : Nat
def El.v (e : El) : Value := tv e.o e.A e.n e.c
/-- A slice of trees' cells. -/
def RowE (w : World) (B : Nat) (A : Option Addr) (l : List El) : Prop :=
  0 < l.length → ∃ b off, A = some ⟨b, off, none⟩ ∧ b < B ∧ ∀ j e, l[j]? = some e → w.cell? ⟨b, off + j * 2, none⟩ = some (.bool e.o) ∧ w.cell? ⟨b, off + j * 2 + 1, none⟩ = some (.slice e.A e.n e.c)
theorem RowE.below {w w' : World} {B : Nat} {A : Option Addr} {l : List El} (h : RowE w B A l) (hb : Below B w w') : RowE w' B A l :=
  fun hn => by obtain ⟨b, off, e, hl, hc⟩ := h hn; exact ⟨b, off, e, hl, fun j p hj => ⟨(hb.cell hl).trans (hc j p hj).1, (hb.cell hl).trans (hc j p hj).2⟩⟩
theorem RowE.more {w : World} {B B' : Nat} {A : Option Addr} {l : List El} (h : RowE w B A l) (hB : B ≤ B') : RowE w B' A l := fun hn => by obtain ⟨b, off, e, hb, hc⟩ := h hn; exact ⟨b, off, e, by omega, hc⟩
theorem RowE.up {w w' : World} {A : Option Addr} {l : List El} (h : RowE w w.heap.size A l) (hb : Below w.heap.size w w') : RowE w' w'.heap.size A l := (h.below hb).more hb.size
theorem RowE.at {w : World} {B : Nat} {A : Option Addr} {l : List El} (h : RowE w B A l) (j : Nat) (hj : j < l.length) : ∃ b off, A = some ⟨b, off, none⟩ ∧ b < B ∧ w.cell? ⟨b, off + j * 2, none⟩ = some (.bool (l[j]'hj).o) ∧ w.cell? ⟨b, off + j * 2 + 1, none⟩ = some (.slice (l[j]'hj).A (l[j]'hj).n (l[j]'hj).c) := by
  obtain ⟨b, off, e, hb, hc⟩ := h (by omega)
  exact ⟨b, off, e, hb, hc j _ (List.getElem?_eq_getElem hj)⟩
/-- A part of a slice. -/
theorem RowE.take {w : World} {B : Nat} {A : Option Addr} {l : List El} (h : RowE w B A l) (i : Nat) : RowE w B A (l.take i) := fun hn => by
  obtain ⟨b, off, e, hb, hc⟩ := h (by rw [List.length_take] at hn; omega)
  refine ⟨b, off, e, hb, fun j p hj => hc j p ?_⟩
  rw [List.getElem?_take] at hj
  split at hj
  · exact hj
  · cases hj
theorem RowE.drop {w : World} {B b off : Nat} {l : List El} (h : RowE w B (some ⟨b, off, none⟩) l) (i : Nat) : RowE w B (some ⟨b, off + i * 2, none⟩) (l.drop i) := fun hn => by
  obtain ⟨b', off', e, hb, hc⟩ := h (by rw [List.length_drop] at hn; omega)
  injection e with e
  injection e with e1 e2
  subst e1; subst e2
  refine ⟨b, off + i * 2, rfl, hb, fun j p hj => ?_⟩
  rw [List.getElem?_drop] at hj
  have := hc (i + j) p hj
  rw [show off + i * 2 + j * 2 = off + (i + j) * 2 by omega]
  exact this
/-- Right trees in a slice. -/
def InL (w : World) (B : Nat) (l : List El) (ts : List Tr) : Prop := l.length = ts.length ∧ ∀ (j : Nat) (e : El) (t : Tr), l[j]? = some e → ts[j]? = some t → InT w B t e.v
theorem InL.below {w w' : World} {B : Nat} {l : List El} {ts : List Tr} (h : InL w B l ts) (hb : Below B w w') : InL w' B l ts := ⟨h.1, fun j e t h1 h2 => (h.2 j e t h1 h2).below hb⟩
theorem InL.up {w w' : World} {l : List El} {ts : List Tr} (h : InL w w.heap.size l ts) (hb : Below w.heap.size w w') : InL w' w'.heap.size l ts := ⟨h.1, fun j e t h1 h2 => (h.2 j e t h1 h2).up hb⟩
theorem InL.take {w : World} {B : Nat} {l : List El} {ts : List Tr} (h : InL w B l ts) (i : Nat) : InL w B (l.take i) (ts.take i) :=
  ⟨by simp [h.1], fun j e t h1 h2 => by
    rw [List.getElem?_take] at h1 h2
    split at h1
    · rename_i hj; rw [if_pos hj] at h2; exact h.2 j e t h1 h2
    · cases h1⟩
theorem InL.drop {w : World} {B : Nat} {l : List El} {ts : List Tr} (h : InL w B l ts) (i : Nat) : InL w B (l.drop i) (ts.drop i) :=
  ⟨by simp [h.1], fun j e t h1 h2 => by
    rw [List.getElem?_drop] at h1 h2
    exact h.2 _ e t h1 h2⟩
theorem InL.app {w : World} {B : Nat} {l : List El} {ts : List Tr} (h : InL w B l ts) {e : El} {t : Tr} (ht : InT w B t e.v) : InL w B (l ++ [e]) (ts ++ [t]) := by
  refine ⟨by simp [h.1], fun j e' t' h1 h2 => ?_⟩
  rcases Nat.lt_or_ge j l.length with hj | hj
  · rw [List.getElem?_append_left hj] at h1
    rw [List.getElem?_append_left (by rw [← h.1]; exact hj)] at h2
    exact h.2 j e' t' h1 h2
  · rw [List.getElem?_append_right hj] at h1
    rw [List.getElem?_append_right (by rw [← h.1]; exact hj)] at h2
    rw [← h.1] at h2
    cases hk : j - l.length with
    | zero =>
      rw [hk] at h1 h2
      simp at h1 h2
      subst h1; subst h2
      exact ht
    | succ k => rw [hk] at h1; simp at h1
/-- A slice of trees of the call's own. -/
def cellsE (l : List El) : List Value := l.flatMap fun e => [.bool e.o, .slice e.A e.n e.c]
theorem cellsE_get : ∀ (l : List El) (j : Nat) (r : El), l[j]? = some r → (cellsE l)[j * 2]? = some (.bool r.o) ∧ (cellsE l)[j * 2 + 1]? = some (.slice r.A r.n r.c)
  | [], j, p, h => by simp at h
  | q :: t, 0, p, h => by simp at h; subst h; simp [cellsE]
  | q :: t, j + 1, p, h => by
    have ih := cellsE_get t j p (by simpa using h)
    have e : cellsE (q :: t) = .bool q.o :: .slice q.A q.n q.c :: cellsE t := by simp [cellsE]
    rw [e, show (j + 1) * 2 = j * 2 + 1 + 1 by omega]
    simp only [List.getElem?_cons_succ]
    exact ih
def GrE (w : World) (base : Nat) (A : Option Addr) (c : Nat) (l : List El) : Prop := w.ownsRow base 24 2 (.slice A l.length c) l.length (cellsE l)
theorem GrE.nil (w : World) (base : Nat) : GrE w base none 0 [] := ⟨by simp [cellsE], .inl ⟨rfl, rfl⟩⟩
theorem GrE.cases {w : World} {base : Nat} {A : Option Addr} {c : Nat} {l : List El} (h : GrE w base A c l) : (A = none ∧ l = [] ∧ c = 0) ∨ ∃ g cur, A = some ⟨g, 0, none⟩ ∧ base ≤ g ∧ w.heap[g]? = some (.cells cur 24 (0, 0)) ∧ l.length ≤ c ∧ c ≤ maxLen ∧ cur.size = c * 2 ∧ cur.toList.take (l.length * 2) = cellsE l := by
  rcases h.2 with ⟨e, h0⟩ | ⟨g, cap, cur, e, hb, hc, h1, h2, h3, h4⟩
  · injection e with e1 e2 e3
    exact .inl ⟨e1, List.eq_nil_of_length_eq_zero e2, e3⟩
  · injection e with e1 e2 e3
    subst e1; subst e3
    exact .inr ⟨g, cur, rfl, hb, hc, h1, h2, h3, h4⟩
theorem GrE.row {w : World} {base c : Nat} {A : Option Addr} {l : List El} (h : GrE w base A c l) : RowE w w.heap.size A l := by
  rcases h.cases with ⟨rfl, rfl, rfl⟩ | ⟨g, cur, rfl, hb, hc, h1, h2, h3, h4⟩
  · exact fun h => absurd h (by simp)
  · refine fun _ => ⟨g, 0, rfl, (Array.getElem?_eq_some_iff.1 hc).1, fun j p hp => ?_⟩
    have hj := (List.getElem?_eq_some_iff.1 hp).1
    have hcell : ∀ k, k < l.length * 2 → w.cell? ⟨g, k, none⟩ = (cellsE l)[k]? := fun k hk => by
      rw [cell_of_row w g k cur 24 (0, 0) hc, ← h4, List.getElem?_take, if_pos hk]; simp
    obtain ⟨g0, g1⟩ := cellsE_get l j p hp
    exact ⟨by rw [Nat.zero_add, hcell _ (by omega), g0], by rw [Nat.zero_add, hcell _ (by omega), g1]⟩
/-- Where a slice lies. -/
def blk (A : Option Addr) : Option Nat := A.map Addr.block
theorem blk_own (A : Option Addr) (n c : Nat) : (Value.slice A n c).ownBlock = blk A := by cases A <;> rfl
theorem GrE.lt {w : World} {base c : Nat} {A : Option Addr} {l : List El} (h : GrE w base A c l) : ∀ k, blk A = some k → base ≤ k ∧ k < w.heap.size := by
  have := World.ownsRow.lt h
  rw [blk_own] at this
  exact this
theorem GrE.below {w w' : World} {base c B : Nat} {A : Option Addr} {l : List El} (h : GrE w base A c l) (hb : Below B w w') (hB : w.heap.size ≤ B) : GrE w' base A c l := by
  refine ⟨h.1, ?_⟩
  rcases h.2 with ⟨e, h0⟩ | ⟨g, cap, cur, e, hb', hc, h1⟩
  · exact .inl ⟨e, h0⟩
  · have := (Array.getElem?_eq_some_iff.1 hc).1
    exact .inr ⟨g, cap, cur, e, hb', (hb.block g (by omega)).trans hc, h1⟩
theorem info24 : (Tryd.prog.info? 24).map (fun i => (i.zero, i.size, i.bytes)) = some (some (.agg #[.bool false, .slice none 0 0]), 2, 32) := by kernel_rfl
theorem oneCell_cellsE (l : List El) : ∀ v ∈ cellsE l, v.oneCell' = true := by
  intro v hv
  obtain ⟨p, _, h⟩ := List.mem_flatMap.1 hv
  simp only [List.mem_cons, List.not_mem_nil, or_false] at h
  rcases h with rfl | rfl <;> rfl
/-- append(out, t): one tree, in a block of its own. Where the new slice lies: where it lay, or in a new block. -/
theorem GrE.one {w : World} {base c : Nat} {A : Option Addr} {l : List El} (h : GrE w base A c l) (r : El) (ty : TypeId) (hb : l.length ≤ 10000000) (hbase : base ≤ w.heap.size) :
    ∃ A' c' w', (Builtin.append_ #[22, 22] ty #[.slice A l.length c, .slice (some ⟨w.heap.size, 0, none⟩) 1 1]).run Tryd.prog (w.alloc (.cells #[.bool r.o, .slice r.A r.n r.c] 24)) = .ok (.slice A' (l.length + 1) c') w' ∧ GrE w' base A' c' (l ++ [r]) ∧ Below base w w' ∧ (∀ k, k < w.heap.size → blk A ≠ some k → w'.heap[k]? = w.heap[k]?) ∧ w.heap.size ≤ w'.heap.size ∧ (blk A' = blk A ∨ ∃ k, blk A' = some k ∧ w.heap.size ≤ k) := by
  obtain ⟨i0, hi, hz0, hz1, hz2⟩ := info_parts info24
  have hB0 : Below base w (w.alloc (.cells #[.bool r.o, .slice r.A r.n r.c] 24)) := (Below.refl _ w).alloc hbase _
  have hBt : Below w.heap.size w (w.alloc (.cells #[.bool r.o, .slice r.A r.n r.c] 24)) := (Below.refl _ w).alloc (Nat.le_refl _) _
  have hcell : ∀ j u, (cellsE [r])[j]? = some u → (w.alloc (.cells #[.bool r.o, .slice r.A r.n r.c] 24)).cell? ((⟨w.heap.size, 0, none⟩ : Addr).add j) = some u := by
    intro j u hu
    have e : (⟨w.heap.size, 0, none⟩ : Addr).add j = ⟨w.heap.size, j, none⟩ := by
      unfold Addr.add; split
      · rename_i h; subst h; rfl
      · simp
    rw [e, cell_of_row _ _ j _ 24 (0, 0) (heap_alloc_new w _)]
    simpa [cellsE] using hu
  obtain ⟨v', w', hrun, ho, hg, hn, hat⟩ := run_append_own_at (P := Tryd.prog) (w.alloc (.cells #[.bool r.o, .slice r.A r.n r.c] 24)) base 22 ty 24 i0 (.agg #[.bool false, .slice none 0 0]) 2 32 Tryd.underlying22 hi hz0 hz1 hz2 rfl (by decide) _ _ _ (h.below hBt (Nat.le_refl _)) _ 1 1 (cellsE [r]) (by simp [cellsE]) hcell (oneCell_cellsE [r]) (by unfold maxLen; omega) (by omega) (by simp; omega)
  have hB : Below base w w' := hB0.grown hg (by simp; omega) (fun k e => by rw [blk_own] at e; exact (h.lt k e).1)
  have e2 : cellsE (l ++ [r]) = cellsE l ++ cellsE [r] := by simp [cellsE]
  have e3 : (l ++ [r]).length = l.length + 1 := by simp
  rw [blk_own] at hg hat
  rcases ho.2 with ⟨e, h0⟩ | ⟨g', cap', cur, e, _⟩
  · omega
  · rw [e] at hrun ho hat
    refine ⟨_, _, w', hrun, by unfold GrE; rw [e2, e3]; exact ho, hB, fun k hk hne => ?_, ?_, ?_⟩
    · exact (hg.block k (by simp; omega) (fun e => hne e.symm)).trans (hBt.block k hk)
    · have := hg.size; simp only [World.size_alloc] at this; omega
    · rw [blk_own] at hat
      rcases hat with hat | hat
      · exact .inl hat
      · exact .inr ⟨_, hat, by simp⟩
end Go.Proofs.YtoaglkjpjolacaaDoor.I
namespace Go.Proofs.YtoaglkjpjolacaaDoor.I
open Go.RowKit
set_option maxRecDepth 100000 in
set_option maxHeartbeats 1600000 in
theorem empty_any (A : Option Addr) (c : Nat) (l : List El) (ts : List Tr) (w : World) (hr : RowE w w.heap.size A l) (hin : InL w w.heap.size l ts) (hl : l.length ≤ 1000) :
    Calls Tryd.prog 97 #[.slice A l.length c] w fun e w' => e = .returned (.bool (ts.all (onlyT false))) ∧ Below w.heap.size w w' := by
  have HR := Lib.hid hr
  have HI := Lib.hid hin
  clear hr hin
  go_enter Tryd.func97, Tryd.ntmps97
  go_wp2
  go_loopg [7] l.length (fun k i wr => ∃ (j : Nat), j ≤ l.length ∧ k = l.length - j ∧ i = .int .i64 j ∧ Hid ((ts.take j).all (onlyT false) = true) ∧ Hid (Below w.heap.size w wr))
  case atStart => exact ⟨0, by omega, by omega, rfl, by show _ = _; simp, Below.refl _ _⟩
  case round =>
    obtain ⟨j, hj, hgk, rfl, hinv, hB⟩ := hrel
    have HGK := Lib.hid hgk; clear hgk
    by_cases hlt : j < l.length
    · have hlt2 : j < ts.length := by rw [← HI.out.1]; exact hlt
      obtain ⟨b, off, rfl, hb, f0, f1⟩ := (HR.out.up hB.out).at j hlt
      have HIN := Lib.hid ((HI.out.up hB.out).2 j _ _ (List.getElem?_eq_getElem hlt) (List.getElem?_eq_getElem hlt2))
      have HT : Hid ((ts.take (j + 1)).all (onlyT false) = onlyT false ts[j]) := by
        show _ = _
        rw [List.take_succ_eq_append_getElem hlt2, List.all_append, hinv.out]; simp
      have HN : Hid (onlyT false ts[j] = false → ts.all (onlyT false) = false) := fun h => by
        rw [List.all_eq_false]
        exact ⟨_, List.getElem_mem hlt2, by rw [h]; simp⟩
      obtain ⟨t, ht⟩ : ∃ t, ts[j] = t := ⟨_, rfl⟩
      obtain ⟨e, he⟩ : ∃ e, l[j] = e := ⟨_, rfl⟩
      rw [ht] at HIN HT HN
      rw [he] at HIN f0 f1
      obtain ⟨o, A1, n1, c1⟩ := e
      simp only at f0 f1
      have hc := only_any t _ false (wr.alloc (.cells #[.bool o, .slice A1 n1 c1] 24)) (HIN.out.up ((Below.refl _ wr).alloc (Nat.le_refl _) _))
      unfold El.v tv at hc
      simp only at hc
      clear ht he HIN
      go_wp2_with fail
      refine hc.mono ?_
      rintro e w2 ⟨rfl, hb2⟩
      have HB2 : Hid (Below w.heap.size w w2) := (hB.out.alloc hB.out.size _).trans (hb2.mono (by have := hB.out.size; simp; omega))
      clear hb2 hc f0 f1
      cases hx : onlyT false t with
      | false =>
        have HF := Lib.hid (HN.out hx)
        clear hx HN HT hinv
        go_wp2
        go_ret
        exact ⟨ret_bool HF.out.symm, HB2.out⟩
      | true =>
        rw [hx] at HT
        clear hx HN hinv
        go_wp2
        go_roundg (l.length - (j + 1))
        · exact ⟨j + 1, by omega, rfl, by rfl, HT.out, HB2.out⟩
        · have := HGK.out; omega
    · obtain rfl : j = l.length := by omega
      have HF : Hid (ts.all (onlyT false) = true) := by
        show _ = _
        have := hinv.out
        rw [List.take_of_length_le (by rw [HI.out.1]; exact Nat.le_refl _)] at this
        exact this
      go_wp2
      go_ret
      exact ⟨ret_bool HF.out.symm, hB.out⟩
end Go.Proofs.YtoaglkjpjolacaaDoor.I
namespace Go.Proofs.YtoaglkjpjolacaaDoor.I
open Go.RowKit
theorem GrE.beside {w w' : World} {base c : Nat} {A B : Option Addr} {l : List El} (h : GrE w base B c l) (hk : ∀ k, k < w.heap.size → blk A ≠ some k → w'.heap[k]? = w.heap[k]?) (hd : ∀ k, blk B = some k → blk A ≠ some k) : GrE w' base B c l := by
  refine ⟨h.1, ?_⟩
  rcases h.2 with ⟨e, h0⟩ | ⟨g, cap, cur, e, hb', hc, h1⟩
  · exact .inl ⟨e, h0⟩
  · injection e with e1 e2 e3
    refine .inr ⟨g, cap, cur, by rw [e1, e3], hb', (hk g (Array.getElem?_eq_some_iff.1 hc).1 (hd g (by rw [e1]; rfl))).trans hc, h1⟩
theorem GrE.cap {w : World} {base c : Nat} {A : Option Addr} {l : List El} (h : GrE w base A c l) : l.length ≤ c := by
  rcases h.cases with ⟨_, rfl, rfl⟩ | ⟨_, _, _, _, _, h1, _⟩
  · simp
  · exact h1
theorem take_kids (ts : List Tr) (j : Nat) (h : j < ts.length) (k : Tr → List Tr) : (ts.take (j + 1)).flatMap k = (ts.take j).flatMap k ++ k ts[j] := by
  rw [List.take_succ_eq_append_getElem h, List.flatMap_append, List.flatMap_singleton]

set_option maxRecDepth 100000 in
set_option maxHeartbeats 6400000 in
theorem covered_any : ∀ (N : Nat) (ts : List Tr) (A : Option Addr) (c : Nat) (l : List El) (w : World), sumN ts < N → RowE w w.heap.size A l → InL w w.heap.size l ts → l.length ≤ 100 → l.length ≤ c →
    Calls Tryd.prog 72 #[.slice A l.length c] w fun e w' => e = .returned (.bool (cov N ts)) ∧ Below w.heap.size w w' := by
  intro N
  induction N with
  | zero => intro ts A c l w h; omega
  | succ N ih =>
  intro ts A c l w hN hr hin hl hcap
  have HR := Lib.hid hr
  have HI := Lib.hid hin
  have HIH := Lib.hid ih
  have HNN := Lib.hid hN
  clear hr hin ih hN
  go_enter Tryd.func72, Tryd.ntmps72
  go_wp2
  go_loopg [3, 4, 9] l.length (fun k f s i wr => ∃ (j : Nat) (lf ls : List El) (Af As : Option Addr) (cf cs : Nat), j ≤ l.length ∧ k = l.length - j ∧ f = .slice Af lf.length cf ∧ s = .slice As ls.length cs ∧ i = .int .i64 j ∧ Hid (InL w w.heap.size lf ((ts.take j).flatMap kidL)) ∧ Hid (InL w w.heap.size ls ((ts.take j).flatMap kidR)) ∧ Hid (∀ t ∈ ts.take j, isOne t = false) ∧ Hid (GrE wr w.heap.size Af cf lf) ∧ Hid (GrE wr w.heap.size As cs ls) ∧ Hid (∀ k, blk Af = some k → blk As ≠ some k) ∧ Hid (Below w.heap.size w wr) ∧ lf.length ≤ j ∧ ls.length ≤ j)
  case atStart => exact ⟨0, [], [], none, none, 0, 0, by omega, by omega, rfl, rfl, rfl, ⟨by simp, by simp⟩, ⟨by simp, by simp⟩, fun t h => by simp at h, GrE.nil _ _, GrE.nil _ _, fun k h => by simp [blk] at h, Below.refl _ _, by simp, by simp⟩
  case round =>
    obtain ⟨j, lf, ls, Af, As, cf, cs, hj, hgk, rfl, rfl, rfl, hif, his, hno, hgf, hgs, hdis, hB, hlf, hls⟩ := hrel
    have HGK := Lib.hid hgk; clear hgk
    by_cases hlt : j < l.length
    · have hlt2 : j < ts.length := by rw [← HI.out.1]; exact hlt
      obtain ⟨b, off, hAeq, hb, f0, f1⟩ := (HR.out.up hB.out).at j hlt
      have HIN0 := Lib.hid (HI.out.2 j _ _ (List.getElem?_eq_getElem hlt) (List.getElem?_eq_getElem hlt2))
      have HTL := Lib.hid (take_kids ts j hlt2 kidL)
      have HTR := Lib.hid (take_kids ts j hlt2 kidR)
      have HTO : Hid (isOne ts[j] = false → ∀ t ∈ ts.take (j + 1), isOne t = false) := fun h t ht => by
        rw [List.take_succ_eq_append_getElem hlt2, List.mem_append, List.mem_singleton] at ht
        rcases ht with ht | rfl
        · exact hno.out t ht
        · exact h
      have HFX : Hid (isOne ts[j] = true → cov (N + 1) ts = ((ts.take j).all (onlyT false) && (ts.drop (j + 1)).all (onlyT false))) := fun h => by
        have : ts.findIdx? isOne = some j := List.findIdx?_eq_some_iff_getElem.2 ⟨hlt2, h, fun i hi => by
          rw [hno.out _ (List.mem_take_iff_getElem.2 ⟨i, by omega, rfl⟩)]; simp⟩
        simp only [cov, this]
      obtain ⟨t, ht⟩ : ∃ t, ts[j] = t := ⟨_, rfl⟩
      obtain ⟨e, he⟩ : ∃ e, l[j] = e := ⟨_, rfl⟩
      rw [ht] at HIN0 HTL HTR HTO HFX
      rw [he] at HIN0 f0 f1
      obtain ⟨o, A1, n1, c1⟩ := e
      simp only at f0 f1
      unfold El.v at HIN0
      simp only at HIN0
      subst hAeq
      have hc := pleaf_any o A1 n1 c1 (wr.alloc (.cells #[.bool o, .slice A1 n1 c1] 24))
      unfold tv at hc
      clear ht he hno
      go_wp2_with fail
      refine hc.mono ?_
      rintro e w2 ⟨rfl, hb2⟩
      have hbr : Below wr.heap.size wr w2 := ((Below.refl _ wr).alloc (Nat.le_refl _) _).trans (hb2.mono (by simp))
      have hbx : w2.heap[wr.heap.size]? = some (.cells #[.bool o, .slice A1 n1 c1] 24 (0, 0)) := (hb2.block _ (by simp)).trans (heap_alloc_new wr _)
      have hs2 : wr.heap.size < w2.heap.size := by have := hb2.size; simp at this; omega
      have hB2 : Below w.heap.size w w2 := hB.out.trans (hbr.mono hB.out.size)
      have hgf2 := hgf.out.below hbr (Nat.le_refl _)
      have hgs2 := hgs.out.below hbr (Nat.le_refl _)
      have hltf := hgf.out.lt
      have hlts := hgs.out.lt
      clear hb2 hc hgf hgs f0 f1
      rcases HIN0.out.leafy with ⟨rfl, rfl⟩ | ⟨rfl, rfl, x, y, rfl⟩
      · cases o with
        | true =>
          have k0 : w2.cell? ⟨wr.heap.size, 0, none⟩ = some (.bool true) := by rw [cell_of_row w2 _ 0 _ 24 (0, 0) hbx]; rfl
          have HF := Lib.hid (HFX.out rfl)
          have hlen : (l.take j).length = j := by rw [List.length_take]; omega
          have hc1 := empty_any (some ⟨b, off, none⟩) c (l.take j) (ts.take j) w2 ((HR.out.up hB2).take j) ((HI.out.up hB2).take j) (by omega)
          rw [hlen] at hc1
          have hlen2 : (l.drop (j + 1)).length = l.length - (j + 1) := List.length_drop
          have HC2 : Hid (∀ W, Below w.heap.size w W → ∀ cc, Calls Tryd.prog 97 #[.slice (some ⟨b, off + (j + 1) * 2, none⟩) (l.length - (j + 1)) cc] W fun e w' => e = .returned (.bool ((ts.drop (j + 1)).all (onlyT false))) ∧ Below W.heap.size W w') := fun W hW cc => by
            have := empty_any (some ⟨b, off + (j + 1) * 2, none⟩) cc (l.drop (j + 1)) (ts.drop (j + 1)) W ((HR.out.up hW).drop (j + 1)) ((HI.out.up hW).drop (j + 1)) (by rw [hlen2]; omega)
            rw [hlen2] at this
            exact this
          have HC3 : Hid (j + 1 = c → ∀ W, Below w.heap.size w W → ∀ cc, Calls Tryd.prog 97 #[.slice (some ⟨b, off, none⟩) 0 cc] W fun e w' => e = .returned (.bool ((ts.drop (j + 1)).all (onlyT false))) ∧ Below W.heap.size W w') := fun hjc W hW cc => by
            have hn : l.drop (j + 1) = [] := List.drop_eq_nil_of_le (by omega)
            have := empty_any (some ⟨b, off, none⟩) cc (l.drop (j + 1)) (ts.drop (j + 1)) W (by rw [hn]; exact fun h => absurd h (by simp)) ((HI.out.up hW).drop (j + 1)) (by rw [hn]; simp)
            rw [hn] at this
            exact this
          have HB2 := Lib.hid hB2
          obtain ⟨q1, hq1⟩ : ∃ q, (ts.take j).all (onlyT false) = q := ⟨_, rfl⟩
          obtain ⟨q2, hq2⟩ : ∃ q, (ts.drop (j + 1)).all (onlyT false) = q := ⟨_, rfl⟩
          rw [hq1] at hc1 HF
          rw [hq2] at HF HC2 HC3
          clear HFX HTO HTL HTR hif his hdis hgf2 hgs2 hltf hlts hlen hlen2 hbx hbr hq1 hq2 HIN0 hB2
          go_wp2_with fail
          refine hc1.mono ?_
          rintro e w3 ⟨rfl, hb3⟩
          have HB3 : Hid (Below w.heap.size w w3) := HB2.out.trans (hb3.mono HB2.out.size)
          clear hb3 hc1 k0
          cases q1 with
          | false =>
            go_wp2
            go_ret
            exact ⟨ret_bool (by rw [HF.out]; rfl), HB3.out⟩
          | true =>
            by_cases hjc : j + 1 = c
            · have hle : l.length - (j + 1) = 0 := by omega
              have hcc := HC3.out hjc w3 HB3.out
              clear HC2 HC3
              go_wp2_with fail
              refine (hcc _).mono ?_
              rintro e w4 ⟨rfl, hb4⟩
              have HB4 : Hid (Below w.heap.size w w4) := HB3.out.trans (hb4.mono HB3.out.size)
              clear hb4 hcc
              go_wp2
              go_ret
              exact ⟨ret_bool (by rw [HF.out, Bool.true_and]), HB4.out⟩
            · have hjc2 : j + 1 < c := by omega
              have hcc := HC2.out w3 HB3.out
              clear HC2 HC3
              go_wp2_with fail
              refine (hcc _).mono ?_
              rintro e w4 ⟨rfl, hb4⟩
              have HB4 : Hid (Below w.heap.size w w4) := HB3.out.trans (hb4.mono HB3.out.size)
              clear hb4 hcc
              go_wp2
              go_ret
              exact ⟨ret_bool (by rw [HF.out, Bool.true_and]), HB4.out⟩
        | false =>
          have k0 : w2.cell? ⟨wr.heap.size, 0, none⟩ = some (.bool false) := by rw [cell_of_row w2 _ 0 _ 24 (0, 0) hbx]; rfl
          have HRel : Hid (InL w w.heap.size lf ((ts.take (j + 1)).flatMap kidL) ∧ InL w w.heap.size ls ((ts.take (j + 1)).flatMap kidR) ∧ (∀ t ∈ ts.take (j + 1), isOne t = false) ∧ GrE w2 w.heap.size Af cf lf ∧ GrE w2 w.heap.size As cs ls ∧ Below w.heap.size w w2) :=
            ⟨by rw [HTL.out]; simp only [kidL, List.append_nil]; exact hif.out, by rw [HTR.out]; simp only [kidR, List.append_nil]; exact his.out, HTO.out rfl, hgf2, hgs2, hB2⟩
          have HD := Lib.hid hdis.out
          clear HFX HTO HTL HTR hif his hdis hgf2 hgs2 hltf hlts hbx hbr HIN0 hB2
          go_wp2
          go_roundg (l.length - (j + 1))
          case measure => have := HGK.out; omega
          case rel => exact ⟨j + 1, lf, ls, Af, As, cf, cs, by omega, rfl, rfl, rfl, by go_num, HRel.out.1, HRel.out.2.1, HRel.out.2.2.1, HRel.out.2.2.2.1, HRel.out.2.2.2.2.1, HD.out, HRel.out.2.2.2.2.2, by omega, by omega⟩
      · obtain ⟨b', off', c', he', hb', ⟨o3, A3, n3, c3, x1, x2, x3⟩, ⟨o4, A4, n4, c4, y1, y2, y3⟩⟩ := HIN0.out
        unfold tv at he'
        injection he' with he'
        injection he' with he'
        injection he' with _ he'
        injection he' with he' _
        injection he' with e1 _ e3
        subst e1; subst e3
        have hbase : w.heap.size ≤ w2.heap.size := hB2.size
        obtain ⟨Ag, cg, w3, hap1, hg1, hbb1, hk1, hsz1, hat1⟩ := hgf2.one ⟨o3, A3, n3, c3⟩ 22 (by omega) hbase
        have hd12 : ∀ k, blk As = some k → blk Af ≠ some k := fun k h1 h2 => hdis.out k h2 h1
        have hgs3 := hgs2.beside hk1 hd12
        have hB3 : Below w.heap.size w w3 := hB2.trans hbb1
        obtain ⟨Ah, ch, w4, hap2, hg2, hbb2, hk2, hsz2, hat2⟩ := hgs3.one ⟨o4, A4, n4, c4⟩ 22 (by omega) hB3.size
        have hdg : ∀ k, blk Ag = some k → blk As ≠ some k := fun k h1 h2 => by
          rcases hat1 with h | ⟨k', h, hk⟩
          · rw [h] at h1; exact hdis.out k h1 h2
          · rw [h] at h1; injection h1 with h1; subst h1
            have := (hlts k' h2).2; omega
        have hg1' := hg1.beside hk2 hdg
        have hdh : ∀ k, blk Ag = some k → blk Ah ≠ some k := fun k h1 h2 => by
          rcases hat2 with h | ⟨k', h, hk⟩
          · rw [h] at h2; exact hdg k h1 h2
          · rw [h] at h2; injection h2 with h2; subst h2
            have := (hg1.lt k' h1).2; omega
        have hB4 : Below w.heap.size w w4 := hB3.trans hbb2
        have hbx3 : w3.heap[wr.heap.size]? = some (.cells #[.bool false, .slice (some ⟨b', off', none⟩) 2 c1] 24 (0, 0)) := (hk1 _ hs2 (fun h => by have := (hltf _ h).2; omega)).trans hbx
        have k0 : w2.cell? ⟨wr.heap.size, 1, none⟩ = some (.slice (some ⟨b', off', none⟩) 2 c1) := by rw [cell_of_row w2 _ 1 _ 24 (0, 0) hbx]; rfl
        have k1 : w3.cell? ⟨wr.heap.size, 1, none⟩ = some (.slice (some ⟨b', off', none⟩) 2 c1) := by rw [cell_of_row w3 _ 1 _ 24 (0, 0) hbx3]; rfl
        have m1 := (hB2.cell (p := ⟨b', off', none⟩) hb').trans x1
        have m2 := (hB2.cell (p := ⟨b', off' + 1, none⟩) hb').trans x2
        have m3 := (hB3.cell (p := ⟨b', off' + 2, none⟩) hb').trans y1
        have m4 := (hB3.cell (p := ⟨b', off' + 2 + 1, none⟩) hb').trans y2
        have HRel : Hid (InL w w.heap.size (lf ++ [⟨o3, A3, n3, c3⟩]) ((ts.take (j + 1)).flatMap kidL) ∧ InL w w.heap.size (ls ++ [⟨o4, A4, n4, c4⟩]) ((ts.take (j + 1)).flatMap kidR) ∧ (∀ t ∈ ts.take (j + 1), isOne t = false) ∧ GrE w4 w.heap.size Ag cg (lf ++ [⟨o3, A3, n3, c3⟩]) ∧ GrE w4 w.heap.size Ah ch (ls ++ [⟨o4, A4, n4, c4⟩]) ∧ Below w.heap.size w w4) :=
          ⟨by rw [HTL.out]; exact hif.out.app x3, by rw [HTR.out]; exact his.out.app y3, HTO.out rfl, hg1', hg2, hB4⟩
        have HD := Lib.hid hdh
        have HAP1 := Lib.hid hap1
        have HAP2 := Lib.hid hap2
        have el1 : (lf ++ [(⟨o3, A3, n3, c3⟩ : El)]).length = lf.length + 1 := by simp
        have el2 : (ls ++ [(⟨o4, A4, n4, c4⟩ : El)]).length = ls.length + 1 := by simp
        clear HFX HTO HTL HTR hif his hdis hgf2 hgs2 hltf hlts hbx hbr HIN0 hB2 hB3 hB4 hbx3 hk1 hk2 hat1 hat2 hdg hdh hd12 hg1 hg1' hg2 hgs3 hap1 hap2 hbb1 hbb2 x1 x2 x3 y1 y2 y3
        go_wp2_with first
          | (at_builtin; refine wpList_append_run rfl _ _ _ _ rfl _ _ rfl rfl HAP1.out ?_; clear HAP1)
          | (at_builtin; refine wpList_append_run rfl _ _ _ _ rfl _ _ rfl rfl HAP2.out ?_; clear HAP2)
        go_roundg (l.length - (j + 1))
        case measure => have := HGK.out; omega
        case rel => exact ⟨j + 1, _, _, Ag, Ah, cg, ch, by omega, rfl, by rw [el1], by rw [el2], by go_num, HRel.out.1, HRel.out.2.1, HRel.out.2.2.1, HRel.out.2.2.2.1, HRel.out.2.2.2.2.1, HD.out, HRel.out.2.2.2.2.2, by omega, by omega⟩
    · obtain rfl : j = l.length := by omega
      have hts : ts.take l.length = ts := List.take_of_length_le (by rw [HI.out.1]; exact Nat.le_refl _)
      rw [hts] at hif his hno
      have HCV : Hid (cov (N + 1) ts = (decide (0 < (ts.flatMap kidL).length) && cov N (ts.flatMap kidL) && cov N (ts.flatMap kidR))) := by
        show _ = _
        have : ts.findIdx? isOne = none := List.findIdx?_eq_none_iff.2 fun t ht => by simpa using hno.out t ht
        simp only [cov, this]
      obtain ⟨s1, s2, s3⟩ := kids_less ts
      have hN := HNN.out
      have hlf' := hif.out.1
      have hls' := his.out.1
      by_cases h0 : 0 < lf.length
      · have hc1 := HIH.out (ts.flatMap kidL) Af cf lf wr (by omega) hgf.out.row (hif.out.up hB.out) (by omega) hgf.out.cap
        have HC2 : Hid (∀ W, Below wr.heap.size wr W → Calls Tryd.prog 72 #[.slice As ls.length cs] W fun e w' => e = .returned (.bool (cov N (ts.flatMap kidR))) ∧ Below W.heap.size W w') := fun W hW =>
          HIH.out (ts.flatMap kidR) As cs ls W (by omega) (hgs.out.row.up hW) (his.out.up (hB.out.trans (hW.mono hB.out.size))) (by omega) hgs.out.cap
        rw [← hlf', decide_eq_true h0, Bool.true_and] at HCV
        obtain ⟨q1, hq1⟩ : ∃ q, cov N (ts.flatMap kidL) = q := ⟨_, rfl⟩
        obtain ⟨q2, hq2⟩ : ∃ q, cov N (ts.flatMap kidR) = q := ⟨_, rfl⟩
        rw [hq1] at hc1 HCV
        rw [hq2] at HC2 HCV
        clear hif his hno hgf hgs hdis s1 s2 s3 hN hlf' hls' hq1 hq2 hts
        go_wp2_with fail
        refine hc1.mono ?_
        rintro e w2 ⟨rfl, hb2⟩
        have hcc := HC2.out w2 hb2
        have HB2 : Hid (Below w.heap.size w w2) := hB.out.trans (hb2.mono hB.out.size)
        clear hb2 hc1 HC2
        cases q1 with
        | false =>
          clear hcc
          go_wp2
          go_ret
          exact ⟨ret_bool (by rw [HCV.out]; rfl), HB2.out⟩
        | true =>
          go_wp2_with fail
          refine hcc.mono ?_
          rintro e w3 ⟨rfl, hb3⟩
          have HB3 : Hid (Below w.heap.size w w3) := HB2.out.trans (hb3.mono HB2.out.size)
          clear hb3 hcc
          go_wp2
          go_ret
          exact ⟨ret_bool (by rw [HCV.out, Bool.true_and]), HB3.out⟩
      · have h00 : lf.length = 0 := by omega
        rw [← hlf', decide_eq_false h0] at HCV
        clear hif his hno hgf hgs hdis s1 s2 s3 hN hlf' hls' hts
        go_wp2
        go_ret
        exact ⟨ret_bool (by rw [HCV.out]; rfl), hB.out⟩
end Go.Proofs.YtoaglkjpjolacaaDoor.I
namespace Go.Proofs.YtoaglkjpjolacaaDoor.I
open Go.RowKit
/-- Trees that are handed in, one behind the other. -/
def ArgL (w : World) (l : List El) (Ts : List (Option Tr)) : Prop := l.length = Ts.length ∧ ∀ (j : Nat) (e : El) (T : Option Tr), l[j]? = some e → Ts[j]? = some T → Arg w T e.v
theorem ArgL.up {w w' : World} {l : List El} {Ts : List (Option Tr)} (h : ArgL w l Ts) (hb : Below w.heap.size w w') : ArgL w' l Ts := ⟨h.1, fun j e T h1 h2 => (h.2 j e T h1 h2).up hb⟩
theorem ArgL.take {w : World} {l : List El} {Ts : List (Option Tr)} (h : ArgL w l Ts) (i : Nat) : ArgL w (l.take i) (Ts.take i) :=
  ⟨by simp [h.1], fun j e t h1 h2 => by
    rw [List.getElem?_take] at h1 h2
    split at h1
    · rename_i hj; rw [if_pos hj] at h2; exact h.2 j e t h1 h2
    · cases h1⟩
theorem all_some : ∀ (Ts : List (Option Tr)), (∀ T ∈ Ts, T.isSome = true) → ∃ ts : List Tr, Ts = ts.map some
  | [], _ => ⟨[], rfl⟩
  | T :: Ts, h => by
    obtain ⟨ts, rfl⟩ := all_some Ts fun x hx => h x (List.mem_cons_of_mem _ hx)
    have := h T List.mem_cons_self
    cases T with
    | none => cases this
    | some t => exact ⟨t :: ts, rfl⟩
theorem ArgL.inL {w : World} {l : List El} {ts : List Tr} (h : ArgL w l (ts.map some)) : InL w w.heap.size l ts ∧ ∀ t ∈ ts, t.depth ≤ 32 ∧ t.nodes ≤ 2047 := by
  refine ⟨⟨by simpa using h.1, fun j e t h1 h2 => (h.2 j e (some t) h1 (by rw [List.getElem?_map, h2]; rfl)).inT.1⟩, fun t ht => ?_⟩
  obtain ⟨j, hj⟩ := List.mem_iff_getElem?.1 ht
  have hlt : j < l.length := by rw [h.1, List.length_map]; exact (List.getElem?_eq_some_iff.1 hj).1
  exact (h.2 j _ (some t) (List.getElem?_eq_getElem hlt) (by rw [List.getElem?_map, hj]; rfl)).inT.2
theorem no_iff {P : Prop} (h : ¬ P) : false = true ↔ P := ⟨fun h => Bool.noConfusion h, fun hp => absurd hp h⟩
theorem map_some : ∀ {ts us : List Tr}, ts.map some = us.map some → ts = us
  | [], [], _ => rfl
  | [], _ :: _, h => by simp at h
  | _ :: _, [], h => by simp at h
  | t :: ts, u :: us, h => by
    simp only [List.map_cons, List.cons.injEq, Option.some.injEq] at h
    rw [h.1, map_some h.2]
set_option maxRecDepth 100000 in
set_option maxHeartbeats 1600000 in
theorem whole_any (A : Option Addr) (c : Nat) (l : List El) (Ts : List (Option Tr)) (w : World) (hr : RowE w w.heap.size A l) (ha : ArgL w l Ts) (hcap : l.length ≤ c) (hbig : l.length ≤ 140737488351232) :
    Calls Tryd.prog 42 #[.slice A l.length c] w fun e w' => ∃ b, e = .returned (.bool b) ∧ (b = true ↔ WholeP Ts) ∧ Below w.heap.size w w' := by
  by_cases h64 : 64 < l.length
  · have HF : Hid (¬ WholeP Ts) := fun h => by have := h.1; rw [← ha.1] at this; omega
    clear hr ha
    go_enter Tryd.func42, Tryd.ntmps42
    go_wp2
    go_ret
    exact ⟨false, rfl, no_iff HF.out, Below.refl _ _⟩
  · have HR := Lib.hid hr
    have HA := Lib.hid ha
    clear hr ha
    go_enter Tryd.func42, Tryd.ntmps42
    go_wp2
    go_loopg [10] l.length (fun k i wr => ∃ (j : Nat), j ≤ l.length ∧ k = l.length - j ∧ i = .int .i64 j ∧ Hid (∀ T ∈ Ts.take j, T.isSome = true) ∧ Hid (Below w.heap.size w wr))
    case atStart => exact ⟨0, by omega, by omega, rfl, fun T h => by simp at h, Below.refl _ _⟩
    case round =>
      obtain ⟨j, hj, hgk, rfl, hinv, hB⟩ := hrel
      have HGK := Lib.hid hgk; clear hgk
      by_cases hlt : j < l.length
      · have hlt2 : j < Ts.length := by rw [← HA.out.1]; exact hlt
        obtain ⟨b, off, rfl, hb, f0, f1⟩ := (HR.out.up hB.out).at j hlt
        have HIN := Lib.hid ((HA.out.up hB.out).2 j _ _ (List.getElem?_eq_getElem hlt) (List.getElem?_eq_getElem hlt2))
        have HT : Hid (Ts[j].isSome = true → ∀ T ∈ Ts.take (j + 1), T.isSome = true) := fun h T hT => by
          rw [List.take_succ_eq_append_getElem hlt2, List.mem_append, List.mem_singleton] at hT
          rcases hT with hT | rfl
          · exact hinv.out T hT
          · exact h
        have HN : Hid (Ts[j].isSome = false → ¬ WholeP Ts) := fun h hw => by
          obtain ⟨ts, e, _⟩ := hw.2
          have hm : Ts[j] ∈ Ts := List.getElem_mem hlt2
          obtain ⟨T, hT⟩ : ∃ T, Ts[j] = T := ⟨_, rfl⟩
          rw [hT] at hm h
          rw [e] at hm
          obtain ⟨t, _, ht⟩ := List.mem_map.1 hm
          rw [← ht] at h; cases h
        obtain ⟨T, ht⟩ : ∃ T, Ts[j] = T := ⟨_, rfl⟩
        obtain ⟨e, he⟩ : ∃ e, l[j] = e := ⟨_, rfl⟩
        rw [ht] at HIN HT HN
        rw [he] at HIN f0 f1
        obtain ⟨o, A1, n1, c1⟩ := e
        simp only at f0 f1
        have hc := right_arg (HIN.out.up ((Below.refl _ wr).alloc (Nat.le_refl _) (.cells #[.bool o, .slice A1 n1 c1] 24)))
        unfold El.v tv at hc
        simp only at hc
        clear ht he HIN
        go_wp2_with fail
        refine hc.mono ?_
        rintro e w2 ⟨rfl, hb2⟩
        have HB2 : Hid (Below w.heap.size w w2) := (hB.out.alloc hB.out.size _).trans (hb2.mono (by have := hB.out.size; simp; omega))
        clear hb2 hc f0 f1
        cases hx : T.isSome with
        | false =>
          have HF := Lib.hid (HN.out hx)
          clear hx HN HT hinv
          go_wp2
          go_ret
          exact ⟨false, rfl, no_iff HF.out, HB2.out⟩
        | true =>
          have HTT := Lib.hid (HT.out hx)
          clear hx HN hinv HT
          go_wp2
          go_roundg (l.length - (j + 1))
          case measure => have := HGK.out; omega
          case rel => exact ⟨j + 1, by omega, rfl, by go_num, HTT, HB2⟩
      · obtain rfl : j = l.length := by omega
        have hall := hinv.out
        rw [List.take_of_length_le (by rw [HA.out.1]; exact Nat.le_refl _)] at hall
        obtain ⟨ts, rfl⟩ := all_some Ts hall
        obtain ⟨hin, hsm⟩ := (HA.out.up hB.out).inL
        have hc := covered_any (sumN ts + 1) ts A c l wr (Nat.lt_succ_self _) (HR.out.up hB.out) hin (by omega) hcap
        have HF : Hid (cov (sumN ts + 1) ts = true ↔ WholeP (ts.map some)) := by
          show _ ↔ _
          rw [cov_iff _ _ (Nat.lt_succ_self _)]
          constructor
          · intro h; exact ⟨by rw [← HA.out.1]; omega, ts, rfl, h⟩
          · rintro ⟨_, us, e, h⟩
            have : ts = us := map_some e
            rw [this]; exact h
        obtain ⟨q, hq⟩ : ∃ q, cov (sumN ts + 1) ts = q := ⟨_, rfl⟩
        rw [hq] at hc HF
        clear hq hin hsm hall hinv
        go_wp2_with fail
        refine hc.mono ?_
        rintro e w2 ⟨rfl, hb2⟩
        have HB2 : Hid (Below w.heap.size w w2) := hB.out.trans (hb2.mono hB.out.size)
        clear hb2 hc
        go_wp2
        go_ret
        exact ⟨q, rfl, HF.out, HB2.out⟩
end Go.Proofs.YtoaglkjpjolacaaDoor.I
