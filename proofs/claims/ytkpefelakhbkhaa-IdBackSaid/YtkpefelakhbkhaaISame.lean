/-
  The reference's Same, Sum.
-/
import Derived.Test.YtkpefelakhbkhaaIMeet
namespace Go.Proofs.Ytkpefelakhbkhaa.I
open Go.RowKit

/-- Two boxed trees: what their variables hold in a later world. -/
theorem box_pair (w : World) (o1 o2 : Bool) (A1 A2 : Option Addr) (n1 n2 c1 c2 : Nat) (W : World) (hb : Below (w.heap.size + 2) ((w.alloc (.cells #[.bool o1, .slice A1 n1 c1] 24)).alloc (.cells #[.bool o2, .slice A2 n2 c2] 24)) W) :
    (W.cell? ⟨w.heap.size, 0, none⟩ = some (.bool o1) ∧ W.cell? ⟨w.heap.size, 1, none⟩ = some (.slice A1 n1 c1)) ∧ W.cell? ⟨w.heap.size + 1, 0, none⟩ = some (.bool o2) ∧ W.cell? ⟨w.heap.size + 1, 1, none⟩ = some (.slice A2 n2 c2) := by
  have h : ∀ k i, k < w.heap.size + 2 → W.cell? ⟨k, i, none⟩ = ((w.alloc (.cells #[.bool o1, .slice A1 n1 c1] 24)).alloc (.cells #[.bool o2, .slice A2 n2 c2] 24)).cell? ⟨k, i, none⟩ := fun k i hk => hb.cell hk
  rw [h _ _ (by omega), h _ _ (by omega), h _ _ (by omega), h _ _ (by omega)]
  refine ⟨⟨?_, ?_⟩, ?_, ?_⟩ <;> simp [go_sem]
/-- What Norm answers, in one form. -/
theorem NormR.form {o : Bool} {ks : Fo} {w w' : World} {e : Ending} (h : NormR o ks w e w') : ∃ o5 A5 n5 c5 z, e = .returned (.tuple #[tv o5 A5 n5 c5, .int .i64 z]) ∧ ((z = 0 ∧ ∃ t, treeOf o ks = some t ∧ InT w' w'.heap.size t.norm (tv o5 A5 n5 c5)) ∨ (z = 2 ∧ treeOf o ks = none)) := by
  rcases h.1 with ⟨t, v, ht, rfl, hin⟩ | ⟨ht, rfl⟩
  · obtain ⟨o5, A5, n5, c5, rfl⟩ := hin.form
    exact ⟨o5, A5, n5, c5, 0, rfl, .inl ⟨rfl, t, ht, hin⟩⟩
  · exact ⟨false, none, 0, 0, 2, rfl, .inr ⟨rfl, ht⟩⟩
def sameT (a b : Option Tr) : Bool := match a, b with
  | some x, some y => eqT x.norm y.norm
  | _, _ => false

set_option maxRecDepth 100000 in
set_option maxHeartbeats 1600000 in
theorem rsame_any (o1 : Bool) (k1 : Fo) (A1 : Option Addr) (c1 : Nat) (o2 : Bool) (k2 : Fo) (A2 : Option Addr) (c2 : Nat) (w : World) (h1 : Kd w w.heap.size k1 A1) (h2 : Kd w w.heap.size k2 A2) :
    Calls Try.prog 25 #[tv o1 A1 k1.len c1, tv o2 A2 k2.len c2] w fun e w' => e = .returned (.bool (sameT (treeOf o1 k1) (treeOf o2 k2))) ∧ Below w.heap.size w w' := by
  have hb0 : Below w.heap.size w ((w.alloc (.cells #[.bool o1, .slice A1 k1.len c1] 24)).alloc (.cells #[.bool o2, .slice A2 k2.len c2] 24)) := ((Below.refl _ w).alloc (Nat.le_refl _) _).alloc (by simp) _
  have hc1 := rnorm_any o1 k1 A1 c1 _ (h1.up hb0)
  have HP := Lib.hid (box_pair w o1 o2 A1 A2 k1.len k2.len c1 c2)
  have HB0 := Lib.hid hb0
  have H2 := Lib.hid h2
  unfold tv at hc1 ⊢
  obtain ⟨n1, hn1⟩ : ∃ n, k1.len = n := ⟨_, rfl⟩
  obtain ⟨n2, hn2⟩ : ∃ n, k2.len = n := ⟨_, rfl⟩
  have hcall2 := fun W h => rnorm_any o2 k2 A2 c2 W h
  unfold tv at hcall2
  simp only [hn1, hn2] at hc1 HP HB0 hcall2 ⊢
  clear hb0 h1 h2 hn1 hn2
  go_enter Try.func25, Try.ntmps25
  go_wp2_with fail
  refine hc1.mono ?_
  rintro e w1 h
  have hb1 := h.2
  obtain ⟨o5, A5, n5, c5, z, rfl, hz⟩ := h.form
  have HZ := Lib.hid hz
  have hB1 : Below (w.heap.size + 2) ((w.alloc (.cells #[.bool o1, .slice A1 n1 c1] 24)).alloc (.cells #[.bool o2, .slice A2 n2 c2] 24)) (w1.alloc (.cells #[.bool o5, .slice A5 n5 c5] 24)) := by
    have := hb1.size
    simp at this
    refine Below.alloc ?_ (by omega) _
    have h' := hb1
    simp only [World.size_alloc] at h'
    exact h'
  obtain ⟨⟨m0, m1⟩, m2, m3⟩ := HP.out _ hB1
  have hw1 : Below w.heap.size w (w1.alloc (.cells #[.bool o5, .slice A5 n5 c5] 24)) := HB0.out.trans (hB1.mono (by omega))
  have hc2 := hcall2 _ (H2.out.up hw1)
  have HB1 := Lib.hid hB1
  have HW1 := Lib.hid hw1
  clear hb1 h hz hB1 hw1 hcall2 hc1
  unfold tv
  go_wp2_with fail
  refine hc2.mono ?_
  rintro e w2 h
  have hb2 := h.2
  obtain ⟨o6, A6, n6, c6, y, rfl, hy⟩ := h.form
  have HY := Lib.hid hy
  rw [World.size_alloc] at hb2
  have q0 : w2.cell? ⟨w1.heap.size, 0, none⟩ = some (.bool o5) := by rw [hb2.cell (p := ⟨w1.heap.size, 0, none⟩) (by show w1.heap.size < w1.heap.size + 1; omega)]; simp [go_sem]
  have q1 : w2.cell? ⟨w1.heap.size, 1, none⟩ = some (.slice A5 n5 c5) := by rw [hb2.cell (p := ⟨w1.heap.size, 1, none⟩) (by show w1.heap.size < w1.heap.size + 1; omega)]; simp [go_sem]
  have hlt : w1.heap.size < w2.heap.size := by have := hb2.size; simp at this; omega
  have HW2 : Hid (Below w.heap.size w (w2.alloc (.cells #[.bool o6, .slice A6 n6 c6] 24))) := by
    have h3 : Below w.heap.size w w2 := HW1.out.trans (hb2.mono (by have := HW1.out.size; simpa using this))
    exact h3.alloc h3.size _
  have HX : Hid (∀ t, InT w1 w1.heap.size t (tv o5 A5 n5 c5) → InT (w2.alloc (.cells #[.bool o6, .slice A6 n6 c6] 24)) (w2.alloc (.cells #[.bool o6, .slice A6 n6 c6] 24)).heap.size t (tv o5 A5 n5 c5)) := fun t ht => by
    have h4 : Below w1.heap.size w1 w2 := ((Below.refl _ w1).alloc (Nat.le_refl _) _).trans (hb2.mono (by omega))
    exact (ht.up h4).up ((Below.refl _ w2).alloc (Nat.le_refl _) _)
  clear hb2 h hy hc2 m0 m1 m2 m3
  unfold tv
  rcases HZ.out with ⟨rfl, t1, ht1, hi1⟩ | ⟨rfl, ht1⟩
  · rcases HY.out with ⟨rfl, t2, ht2, hi2⟩ | ⟨rfl, ht2⟩
    · have hc3 := equal_any t1.norm t2.norm _ _ (w2.alloc (.cells #[.bool o6, .slice A6 n6 c6] 24)) (HX.out _ hi1) (hi2.up ((Below.refl _ w2).alloc (Nat.le_refl _) _))
      unfold tv at hc3
      have HR : Hid (sameT (treeOf o1 k1) (treeOf o2 k2) = eqT t1.norm t2.norm) := by show _ = _; rw [ht1, ht2]; rfl
      clear ht1 hi1 ht2 hi2
      go_wp2_with (go_at_call 19; refine hc3.mono ?_; rintro e w3 ⟨rfl, hb3⟩)
      go_ret
      exact ⟨ret_bool HR.out.symm, HW2.out.trans (hb3.mono HW2.out.size)⟩
    · have HR : Hid (sameT (treeOf o1 k1) (treeOf o2 k2) = false) := by show _ = _; rw [ht1, ht2]; rfl
      clear ht1 hi1 ht2
      go_wp2
      go_ret
      exact ⟨ret_bool HR.out.symm, HW2.out⟩
  · have HR : Hid (sameT (treeOf o1 k1) (treeOf o2 k2) = false) := by show _ = _; rw [ht1]; rfl
    clear ht1
    rcases HY.out with ⟨rfl, _⟩ | ⟨rfl, _⟩
    · go_wp2
      go_ret
      exact ⟨ret_bool HR.out.symm, HW2.out⟩
    · go_wp2
      go_ret
      exact ⟨ret_bool HR.out.symm, HW2.out⟩
end Go.Proofs.Ytkpefelakhbkhaa.I
