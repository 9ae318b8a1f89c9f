/-
  Split once more: the trees that it answers lie in blocks that have a property, if all new blocks have it.
-/
import Derived.Test.YtkpefelakhbkhaaIPSplit
namespace Go.Proofs.Ytkpefelakhbkhaa.I
open Go.RowKit

/-- Two trees and an error's number. -/
def Ans2P (P : Nat → Prop) (r : (Tr × Tr) × Int) (w : World) (e : Ending) (w' : World) : Prop := ∃ v1 v2, e = .returned (.tuple #[v1, v2, .int .i64 r.2]) ∧ InP P w' w'.heap.size r.1.1 v1 ∧ InP P w' w'.heap.size r.1.2 v2 ∧ Below w.heap.size w w'
theorem XS.treeP {P : Nat → Prop} {w W : World} {bs : List (Nat × Value × Value)} {rs : List Nat} (h : XS w bs rs W) {t : Tr} {x : Value} (ht : InP P W W.heap.size t x) (g i : Nat) (u : Value) (hg : g ∈ rs) : InP P (W.setCell ⟨g, i, none⟩ u) (W.setCell ⟨g, i, none⟩ u).heap.size t x := by
  rw [size_set]; exact InP.set2 (h.box g hg).1 ht
theorem XS.fin2P {P : Nat → Prop} {w W : World} {bs : List (Nat × Value × Value)} {rs : List Nat} (h : XS w bs rs W) {s t : Tr} {x y : Value} (hs : InP P W W.heap.size s x) (ht : InP P W W.heap.size t y) (g g' : Nat) (hg : g ∈ rs) (hg' : g' ∈ rs) (z u1 u2 u3 u4 : Value) (k : Int) (hd : ∀ b ∈ bs, b.1 ≠ g) (hd' : ∀ b ∈ bs, b.1 ≠ g') (hz : z = .int .i64 k) :
    Ans2P P ((s, t), k) w (.returned (.tuple #[x, y, z])) ((((W.setCell ⟨g, 0, none⟩ u1).setCell ⟨g, 1, none⟩ u2).setCell ⟨g', 0, none⟩ u3).setCell ⟨g', 1, none⟩ u4) := by
  subst hz
  have h1 := (h.store g 0 u1 hg hd).store g 1 u2 hg hd
  have h2 := h1.store g' 0 u3 hg' hd'
  have k1 := fun {q : Tr} {z : Value} (hq : InP P W W.heap.size q z) => h2.treeP (h1.treeP ((h.store g 0 u1 hg hd).treeP (h.treeP hq g 0 u1 hg) g 1 u2 hg) g' 0 u3 hg') g' 1 u4 hg'
  exact ⟨_, _, rfl, k1 hs, k1 ht, (h2.store g' 1 u4 hg' hd').bel⟩

set_option maxRecDepth 100000 in
set_option maxHeartbeats 1600000 in
theorem split_argP (P : Nat → Prop) {w : World} (hN : New P w) {T : Option Tr} {v : Value} (hv : Arg w T v) : Calls Try.prog 15 #[v] w (Ans2P P (splitR T) w) := by
  obtain ⟨o, A, n, c, rfl⟩ := hv.form
  have HX := Lib.hid ((((XS.begin w).boxed (.bool o) (.slice A n c)).fresh (.bool false) (.slice none 0 0)).fresh (.bool false) (.slice none 0 0))
  simp only [List.nil_append, List.cons_append, World.size_alloc] at HX
  have HV := Lib.hid hv
  have HNW := Lib.hid hN
  clear hv hN
  have hr := right_arg (HV.out.up HX.out.bel)
  unfold tv at hr ⊢
  go_enter Try.func15, Try.ntmps15
  go_wp2_with fail
  refine hr.mono ?_
  rintro e w1 ⟨rfl, hb1⟩
  have HX1 := Lib.hid (HX.out.next hb1)
  clear hb1 hr HX
  have f := HX1.out.at0
  simp only [List.mem_cons, List.not_mem_nil, or_false, forall_eq] at f
  obtain ⟨a0, a1, l1⟩ := f
  cases T with
  | none =>
    simp only [Option.isSome_none]
    obtain ⟨y0, y1, ⟨d0, d1⟩, f0, f1⟩ := HX1.out.facts (w.heap.size + 1) (by simp)
    obtain ⟨y2, y3, ⟨d2, d3⟩, f2, f3⟩ := HX1.out.facts (w.heap.size + 1 + 1) (by simp)
    have H := Lib.hid (HX1.out.fin2P (zero_inP P _ _) (zero_inP P _ _) (w.heap.size + 1) (w.heap.size + 1 + 1) (by simp) (by simp) (.int .i64 2) (.bool false) (.slice none 0 0) (.bool false) (.slice none 0 0) 2 (by simp) (by simp; omega) rfl)
    clear HX1 l1 a0 a1
    go_wp2
    refine bodyPost_ret (v := .tuple #[tv false none 0 0, tv false none 0 0, .int .i64 2]) (by simp [results, Try.f15, go_sem, tv, d0, d1, d2, d3]) rfl ?_
    exact H.out
  | some t =>
    simp only [Option.isSome_some]
    have hc := norm_new P t _ w1 (HNW.out.up HX1.out.bel) (HV.out.up HX1.out.bel).inT.1
    unfold tv at hc
    go_wp2_with fail
    refine hc.mono ?_
    rintro e w2 ⟨v2, rfl, ht2, hb2⟩
    have HX2 := Lib.hid (HX1.out.next hb2)
    have hc2 := split_new P t.norm v2 w2 (HNW.out.up HX2.out.bel) ht2
    clear hb2 hc HX1 a0 a1 l1 ht2
    go_wp2_with fail
    refine hc2.mono ?_
    rintro e w3 ⟨x, y, rfl, hx3, hy3, hb3⟩
    obtain ⟨o1, A1, n1, c1, rfl⟩ := hx3.form
    obtain ⟨o2, A2, n2, c2, rfl⟩ := hy3.form
    have hx4 := HX2.out.next hb3
    have HX5 := Lib.hid ((hx4.boxed (.bool o1) (.slice A1 n1 c1)).boxed (.bool o2) (.slice A2 n2 c2))
    have hb5 : Below w3.heap.size w3 ((w3.alloc (.cells #[.bool o1, .slice A1 n1 c1] 24)).alloc (.cells #[.bool o2, .slice A2 n2 c2] 24)) := ((Below.refl _ w3).alloc (Nat.le_refl _) _).alloc (by simp) _
    have HT1 := Lib.hid (hx3.up hb5)
    have HT2 := Lib.hid (hy3.up hb5)
    simp only [List.nil_append, List.cons_append, World.size_alloc] at HX5
    have hr := right_arg (arg_of HT1.out.toT)
    have hsz : w.heap.size + 3 ≤ w3.heap.size := by have := (hx4.box (w.heap.size + 1 + 1) (by simp)).2.1; omega
    have HSZ := Lib.hid hsz
    clear hb3 hc2 HX2 hx3 hy3 hx4 hb5 hsz
    unfold tv at hr ⊢
    go_wp2_with fail
    refine hr.mono ?_
    rintro e w6 ⟨rfl, hb6⟩
    have HX6 := Lib.hid (HX5.out.next hb6)
    have HU1 := Lib.hid (HT1.out.up hb6)
    have HU2 := Lib.hid (HT2.out.up hb6)
    clear hb6 hr HX5 HT1 HT2
    have f := HX6.out.at0
    simp only [List.mem_cons, List.not_mem_nil, or_false, forall_eq_or_imp, forall_eq] at f
    obtain ⟨⟨a0, a1, l1⟩, ⟨b0, b1, l2⟩, e0, e1, l3⟩ := f
    have HE : Hid (splitR (some t) = if (fit (splitT t.norm).1).isSome = true ∧ (fit (splitT t.norm).2).isSome = true then (splitT t.norm, 0) else ((.leaf false, .leaf false), 41)) := rfl
    obtain ⟨X, hX⟩ : ∃ X, splitT t.norm = X := ⟨_, rfl⟩
    rw [hX] at HE HU1 HU2 ⊢
    clear hX
    cases hf1 : (fit X.1).isSome with
    | false =>
      obtain ⟨y0, y1, ⟨d0, d1⟩, f0, f1⟩ := HX6.out.facts (w.heap.size + 1) (by simp)
      obtain ⟨y2, y3, ⟨d2, d3⟩, f2, f3⟩ := HX6.out.facts (w.heap.size + 1 + 1) (by simp)
      have H := Lib.hid (HX6.out.fin2P (zero_inP P _ _) (zero_inP P _ _) (w.heap.size + 1) (w.heap.size + 1 + 1) (by simp) (by simp) (.int .i64 41) (.bool false) (.slice none 0 0) (.bool false) (.slice none 0 0) 41 (by have := HSZ.out; simp; omega) (by have := HSZ.out; simp; omega) rfl)
      rw [hf1] at HE
      clear HX6 HU1 HU2 l1 l2 l3 a0 a1 b0 b1 e0 e1 hf1 HSZ
      go_wp2
      refine bodyPost_ret (v := .tuple #[tv false none 0 0, tv false none 0 0, .int .i64 41]) (by simp [results, Try.f15, go_sem, tv, d0, d1, d2, d3]) rfl ?_
      rw [HE.out, if_neg (by simp)]
      exact H.out
    | true =>
      have hr := right_arg (arg_of HU2.out.toT)
      unfold tv at hr
      go_wp2_with fail
      refine hr.mono ?_
      rintro e w7 ⟨rfl, hb7⟩
      have HX7 := Lib.hid (HX6.out.next hb7)
      have HV1 := Lib.hid (HU1.out.up hb7)
      have HV2 := Lib.hid (HU2.out.up hb7)
      clear hb7 hr HX6 HU1 HU2 a0 a1 l1 b0 b1 l2 e0 e1 l3
      have f := HX7.out.at0
      simp only [List.mem_cons, List.not_mem_nil, or_false, forall_eq_or_imp, forall_eq] at f
      obtain ⟨⟨a0, a1, l1⟩, ⟨b0, b1, l2⟩, e0, e1, l3⟩ := f
      rw [hf1] at HE
      clear hf1
      cases hf2 : (fit X.2).isSome with
      | false =>
        obtain ⟨y0, y1, ⟨d0, d1⟩, f0, f1⟩ := HX7.out.facts (w.heap.size + 1) (by simp)
        obtain ⟨y2, y3, ⟨d2, d3⟩, f2, f3⟩ := HX7.out.facts (w.heap.size + 1 + 1) (by simp)
        have H := Lib.hid (HX7.out.fin2P (zero_inP P _ _) (zero_inP P _ _) (w.heap.size + 1) (w.heap.size + 1 + 1) (by simp) (by simp) (.int .i64 41) (.bool false) (.slice none 0 0) (.bool false) (.slice none 0 0) 41 (by have := HSZ.out; simp; omega) (by have := HSZ.out; simp; omega) rfl)
        rw [hf2] at HE
        clear HX7 HV1 HV2 l1 l2 l3 a0 a1 b0 b1 e0 e1 hf2 HSZ
        go_wp2
        refine bodyPost_ret (v := .tuple #[tv false none 0 0, tv false none 0 0, .int .i64 41]) (by simp [results, Try.f15, go_sem, tv, d0, d1, d2, d3]) rfl ?_
        rw [HE.out, if_neg (by simp)]
        exact H.out
      | true =>
        rw [hf2] at HE
        clear hf2
        have hXD := HX7.out.drew
        have HW1 := Lib.hid (HV1.out.up ((Below.refl w7.heap.size w7).drew))
        have HW2 := Lib.hid (HV2.out.up ((Below.refl w7.heap.size w7).drew))
        clear a0 a1 l1 b0 b1 l2 e0 e1 l3 HX7 HV1 HV2
        go_wp2
        refine wp_region_held_drew (S := fun W => XS w [(w.heap.size, .bool o, .slice A n c), (w3.heap.size, .bool o1, .slice A1 n1 c1), (w3.heap.size + 1, .bool o2, .slice A2 n2 c2)] [w.heap.size + 1, w.heap.size + 1 + 1] W) (by kernel_rfl) hXD (fun hS => ?_)
        clear hXD
        generalize w7.drew = wd at hS HW1 HW2 ⊢
        refine wpAnyH_take (i := 0) (v := ?_) rfl (by kernel_rfl) (by kernel_rfl) (by kernel_rfl) (fun _ _ _ h => h) (Or.inl ⟨by kernel_rfl, fun W hW => ?_⟩) hS ?_
        rotate_left
        · have f := hW.at0
          simp only [List.mem_cons, List.not_mem_nil, or_false, forall_eq_or_imp, forall_eq] at f
          obtain ⟨⟨a0, a1, l1⟩, ⟨b0, b1, l2⟩, e0, e1, l3⟩ := f
          first | (go_simp; done) | (go_simp; with_reducible rfl)
        refine wpAnyH_take (i := 1) (v := ?_) rfl (by kernel_rfl) (by kernel_rfl) (by kernel_rfl) (fun _ _ _ h => h) (Or.inl ⟨by kernel_rfl, fun W hW => ?_⟩) hS ?_
        rotate_left
        · have f := hW.at0
          simp only [List.mem_cons, List.not_mem_nil, or_false, forall_eq_or_imp, forall_eq] at f
          obtain ⟨⟨a0, a1, l1⟩, ⟨b0, b1, l2⟩, e0, e1, l3⟩ := f
          first | (go_simp; done) | (go_simp; with_reducible rfl)
        have HS := Lib.hid hS
        have HFIN := Lib.hid (hS.fin2P HW1.out HW2.out (w.heap.size + 1) (w.heap.size + 1 + 1) (by simp) (by simp) (.int .i64 0) (.bool o1) (.slice A1 n1 c1) (.bool o2) (.slice A2 n2 c2) 0 (by have := HSZ.out; simp; omega) (by have := HSZ.out; simp; omega) rfl)
        have HS1 := Lib.hid ((hS.store (w.heap.size + 1) 0 (.bool o1) (by simp) (by have := HSZ.out; simp; omega)).store (w.heap.size + 1) 1 (.slice A1 n1 c1) (by simp) (by have := HSZ.out; simp; omega))
        have HS2 := Lib.hid ((HS1.out.store (w.heap.size + 1 + 1) 0 (.bool o2) (by simp) (by have := HSZ.out; simp; omega)).store (w.heap.size + 1 + 1) 1 (.slice A2 n2 c2) (by simp) (by have := HSZ.out; simp; omega))
        obtain ⟨y0, y1, ⟨d0, d1⟩, f0, f1⟩ := hS.facts (w.heap.size + 1) (by simp)
        obtain ⟨y2, y3, ⟨d2, d3⟩, f2, f3⟩ := hS.facts (w.heap.size + 1 + 1) (by simp)
        clear hS HS HW1 HW2
        refine wpAnyH_ready (rs := [2]) (by kernel_rfl) (by simp) ?_
        refine AllReadyH.cons rfl (fun K hK => ?_) AllReadyH.nil
        go_simp
        go_wp2
        refine hK.out _ _ HS1.out (fun _ => ?_)
        clear hK K
        refine wpAnyH_ready (rs := [3]) (by kernel_rfl) (by simp) ?_
        refine AllReadyH.cons rfl (fun K hK => ?_) AllReadyH.nil
        go_simp
        go_wp2
        refine hK.out _ _ HS2.out (fun hS => ?_)
        clear hK K HS1 HS2
        refine wpAnyH_take (i := 4) (v := ?_) rfl (by kernel_rfl) (by kernel_rfl) (by kernel_rfl) (fun _ _ _ h => h) (Yields.yieldsIf (Or.inl ⟨by kernel_rfl, ?_⟩)) hS ?_
        rotate_left
        · first | (intro w; go_simp; done) | (intro w; go_simp; with_reducible rfl)
        refine wpAnyH_done (by kernel_rfl) ?_ _
        clear hS
        go_wp2
        refine bodyPost_ret (v := .tuple #[tv o1 A1 n1 c1, tv o2 A2 n2 c2, .int .i64 0]) (by simp [results, Try.f15, go_sem, tv, d0, d1, d2, d3]) rfl ?_
        rw [HE.out, if_pos ⟨trivial, trivial⟩]
        exact HFIN.out
end Go.Proofs.Ytkpefelakhbkhaa.I
