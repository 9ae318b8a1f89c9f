/-
  IdForks: the walk of the law.
-/
import Derived.Test.YtkpefelakhbkhaaIPArg
import Derived.Test.YtkpefelakhbkhaaIWhole
import Derived.Test.YtkpefelakhbkhaaISplits
namespace Go.Proofs.Ytkpefelakhbkhaa.I
open Go.RowKit

theorem cell_same {w w' : World} {k : Nat} (h : w'.heap[k]? = w.heap[k]?) (p : Addr) (hp : p.block = k) : w'.cell? p = w.cell? p := by
  subst hp
  simp only [World.cell?, h]
/-- Trees of a list that the call owns: none of them lies in the list's own block. -/
def Own (w : World) (g : Nat) (l : List El) (ts : List Tr) : Prop := l.length = ts.length ∧ ∀ (j : Nat) (e : El) (t : Tr), l[j]? = some e → ts[j]? = some t → InP (· ≠ g) w w.heap.size t e.v ∧ fit t = some t
/-- A list of trees in a block of its own. -/
structure Lst (w W : World) (A : Option Addr) (c : Nat) (l : List El) (ts : List Tr) : Prop where
  gr : GrE W w.heap.size A c l
  own : ∀ g, blk A = some g → Own W g l ts
  lies : ∃ g, blk A = some g
  bel : Below w.heap.size w W
  whole : ∀ f, cnt ts f = 1
  len : l.length = ts.length
theorem Lst.inL {w W : World} {A : Option Addr} {c : Nat} {l : List El} {ts : List Tr} (h : Lst w W A c l ts) : ArgL W l (ts.map some) := by
  obtain ⟨g, hg⟩ := h.lies
  obtain ⟨h1, h2⟩ := h.own g hg
  refine ⟨by simpa using h1, fun j e T he hT => ?_⟩
  rw [List.getElem?_map] at hT
  cases ht : ts[j]? with
  | none => rw [ht] at hT; cases hT
  | some t =>
    rw [ht] at hT
    simp at hT
    subst hT
    obtain ⟨k1, k2⟩ := h2 j e t he ht
    have := arg_of k1.toT
    rw [k2] at this
    exact this
theorem Lst.next {w W W' : World} {A : Option Addr} {c : Nat} {l : List El} {ts : List Tr} (h : Lst w W A c l ts) (hb : Below W.heap.size W W') : Lst w W' A c l ts :=
  ⟨h.gr.below hb (Nat.le_refl _), fun g hg => ⟨(h.own g hg).1, fun j e t h1 h2 => ⟨((h.own g hg).2 j e t h1 h2).1.up hb, ((h.own g hg).2 j e t h1 h2).2⟩⟩, h.lies, h.bel.trans (hb.mono h.bel.size), h.whole, h.len⟩
theorem cnt_set : ∀ (ts : List Tr) (k : Nat) (a t : Tr) (f : Nat → Bool), ts[k]? = some t → cnt (ts.set k a) f + (if den t f = true then 1 else 0) = cnt ts f + (if den a f = true then 1 else 0)
  | [], k, a, t, f, h => by simp at h
  | x :: ts, 0, a, t, f, h => by simp at h; subst h; simp only [List.set_cons_zero, cnt]; omega
  | x :: ts, k + 1, a, t, f, h => by
    have := cnt_set ts k a t f (by simpa using h)
    simp only [List.set_cons_succ, cnt]; omega
theorem split_cnt (ts : List Tr) (k : Nat) (t : Tr) (h : ts[k]? = some t) (f : Nat → Bool) : cnt (ts.set k (splitT t.norm).1 ++ [(splitT t.norm).2]) f = cnt ts f := by
  have h1 := cnt_set ts k (splitT t.norm).1 t f h
  obtain ⟨h2, h3⟩ := split_or t.norm f
  rw [den_norm] at h2
  rw [cnt_append]
  simp only [cnt]
  rw [← h2] at h1
  cases e1 : den (splitT t.norm).1 f <;> cases e2 : den (splitT t.norm).2 f <;> rw [e1, e2] at h1 h3 <;> simp at h1 h3 ⊢ <;> omega
/-- l[k] = e. -/
theorem cellsE_set : ∀ (l : List El) (k : Nat) (e : El), k < l.length → ((cellsE l).set (k * 2) (.bool e.o)).set (k * 2 + 1) (.slice e.A e.n e.c) = cellsE (l.set k e)
  | [], k, e, h => by simp at h
  | x :: l, 0, e, h => by simp [cellsE]
  | x :: l, k + 1, e, h => by
    have ih := cellsE_set l k e (by simpa using h)
    have e1 : cellsE (x :: l) = .bool x.o :: .slice x.A x.n x.c :: cellsE l := by simp [cellsE]
    have e2 : cellsE (x :: l.set k e) = .bool x.o :: .slice x.A x.n x.c :: cellsE (l.set k e) := by simp [cellsE]
    rw [e1, List.set_cons_succ, e2, show (k + 1) * 2 = k * 2 + 1 + 1 by omega, List.set_cons_succ, List.set_cons_succ, List.set_cons_succ, List.set_cons_succ, ih]
theorem GrE.set {w : World} {base g c : Nat} {l : List El} (h : GrE w base (some ⟨g, 0, none⟩) c l) (k : Nat) (e : El) (hk : k < l.length) : GrE ((w.setCell ⟨g, k * 2, none⟩ (.bool e.o)).setCell ⟨g, k * 2 + 1, none⟩ (.slice e.A e.n e.c)) base (some ⟨g, 0, none⟩) c (l.set k e) := by
  rcases h.cases with ⟨h0, _⟩ | ⟨g', cur, e1, hb, hc, h1, h2, h3, h4⟩
  · cases h0
  · injection e1 with e1
    injection e1 with e1
    subst e1
    refine ⟨by rw [cellsE_length, List.length_set], .inr ⟨g, c, (cur.setIfInBounds (k * 2) (.bool e.o)).setIfInBounds (k * 2 + 1) (.slice e.A e.n e.c), by rw [List.length_set], hb, ?_, by rw [List.length_set]; exact h1, h2, by simpa using h3, ?_⟩⟩
    · simp [World.setCell, Array.getElem?_modify, hc]
    · rw [List.length_set, ← cellsE_set l k e hk, ← h4]
      simp only [Array.toList_setIfInBounds]
      rw [List.take_set, List.take_set]
/-- One tree is split, the list grows by one. -/
theorem Lst.split {w W : World} {g c : Nat} {l : List El} {ts : List Tr} (h : Lst w W (some ⟨g, 0, none⟩) c l ts) (k : Nat) (t : Tr) (ht : ts[k]? = some t) (ea eb : El) (ha : InP (· ≠ g) W W.heap.size (splitT t.norm).1 ea.v) (hb : InP (· ≠ g) W W.heap.size (splitT t.norm).2 eb.v) (fa : fit (splitT t.norm).1 = some (splitT t.norm).1) (fb : fit (splitT t.norm).2 = some (splitT t.norm).2) (hl : l.length ≤ 1000) :
    ∃ A' c' w', (Builtin.append_ #[22, 22] 22 #[.slice (some ⟨g, 0, none⟩) l.length c, .slice (some ⟨W.heap.size, 0, none⟩) 1 1]).run Try.prog ((((W.setCell ⟨g, k * 2, none⟩ (.bool ea.o)).setCell ⟨g, k * 2 + 1, none⟩ (.slice ea.A ea.n ea.c))).alloc (.cells #[.bool eb.o, .slice eb.A eb.n eb.c] 24)) = .ok (.slice A' (l.length + 1) c') w' ∧ Lst w w' A' c' (l.set k ea ++ [eb]) (ts.set k (splitT t.norm).1 ++ [(splitT t.norm).2]) := by
  have hk : k < l.length := by rw [h.len]; exact (List.getElem?_eq_some_iff.1 ht).1
  obtain ⟨W1, hW1⟩ : ∃ W1, (W.setCell ⟨g, k * 2, none⟩ (.bool ea.o)).setCell ⟨g, k * 2 + 1, none⟩ (.slice ea.A ea.n ea.c) = W1 := ⟨_, rfl⟩
  have hs1 : W1.heap.size = W.heap.size := by rw [← hW1]; simp
  have hgl := h.gr.lt g rfl
  have hg1 : GrE W1 w.heap.size (some ⟨g, 0, none⟩) c (l.set k ea) := by rw [← hW1]; exact h.gr.set k ea hk
  have hbel1 : Below w.heap.size w W1 := by rw [← hW1]; exact (h.bel.setCell (p := ⟨g, k * 2, none⟩) hgl.1 _).setCell (p := ⟨g, k * 2 + 1, none⟩) hgl.1 _
  have keep1 : ∀ {x : Tr} {v : Value}, InP (· ≠ g) W W.heap.size x v → InP (· ≠ g) W1 W.heap.size x v := fun hx => hx.keep fun p _ hp => by
    rw [← hW1]
    exact (World.cell?_setCell_other _ _ _ _ (fun e => hp (by rw [← e]))).trans (World.cell?_setCell_other _ _ _ _ (fun e => hp (by rw [← e])))
  obtain ⟨A', c', w', hap, hg2, hbb, hkp, hsz, hat⟩ := hg1.one eb 22 (by rw [List.length_set]; omega) (by rw [hs1]; exact h.bel.size)
  rw [List.length_set, hs1] at hap
  rw [hs1] at hkp hsz hat
  refine ⟨A', c', w', by rw [hW1]; exact hap, hg2, fun g' hg' => ?_, ?_, hbel1.trans hbb, fun f => by rw [split_cnt ts k t ht f]; exact h.whole f, by simp [h.len]⟩
  · have hne : ∀ x : Nat, x < W.heap.size → x ≠ g → x ≠ g' := fun x hx hxg hxe => by
      rcases hat with h1 | ⟨k', h1, h2⟩
      · rw [h1] at hg'; injection hg' with hg'; exact hxg (hxe.trans hg'.symm)
      · rw [h1] at hg'; injection hg' with hg'; omega
    have keep2 : ∀ {x : Tr} {v : Value}, InP (· ≠ g) W W.heap.size x v → InP (· ≠ g') w' w'.heap.size x v := fun hx => by
      refine ((keep1 hx).keep (w' := w') fun p hp hpg => ?_).more fun q h1 h2 => ⟨Nat.lt_of_lt_of_le h1 hsz, hne q h1 h2⟩
      have := hkp p.block hp (fun e => by injection e with e; exact hpg e.symm)
      exact cell_same this p rfl
    refine ⟨by simp [h.len], fun j e' t' h1 h2 => ?_⟩
    rcases Nat.lt_or_ge j l.length with hj | hj
    · rw [List.getElem?_append_left (by rw [List.length_set]; exact hj)] at h1
      rw [List.getElem?_append_left (by rw [List.length_set, ← h.len]; exact hj)] at h2
      by_cases hjk : j = k
      · subst hjk
        rw [List.getElem?_set_self (by omega)] at h1
        rw [List.getElem?_set_self (by rw [← h.len]; omega)] at h2
        injection h1 with h1; injection h2 with h2
        subst h1; subst h2
        exact ⟨keep2 ha, fa⟩
      · rw [List.getElem?_set_ne (fun e => hjk e.symm)] at h1
        rw [List.getElem?_set_ne (fun e => hjk e.symm)] at h2
        obtain ⟨k1, k2⟩ := (h.own g rfl).2 j e' t' h1 h2
        exact ⟨keep2 k1, k2⟩
    · rw [List.getElem?_append_right (by rw [List.length_set]; exact hj), List.length_set] at h1
      rw [List.getElem?_append_right (by rw [List.length_set, ← h.len]; exact hj), List.length_set, ← h.len] at h2
      cases hk' : j - l.length with
      | zero =>
        rw [hk'] at h1 h2
        simp at h1 h2
        subst h1; subst h2
        exact ⟨keep2 hb, fb⟩
      | succ q => rw [hk'] at h1; simp at h1
  · rcases hat with h1 | ⟨k', h1, _⟩
    · exact ⟨g, h1⟩
    · exact ⟨k', h1⟩
end Go.Proofs.Ytkpefelakhbkhaa.I
