/-
  The reference's parted.
-/
import Derived.Test.YtkpefelakhbkhaaIPartB
import Derived.Test.YtkpefelakhbkhaaIPartC1
import Derived.Test.YtkpefelakhbkhaaIPartC2
import Derived.Test.YtkpefelakhbkhaaIPartD1
import Derived.Test.YtkpefelakhbkhaaIPartD2
import Derived.Test.YtkpefelakhbkhaaIPartD3
import Derived.Test.YtkpefelakhbkhaaIPartD4
namespace Go.Proofs.Ytkpefelakhbkhaa.I
open Go.RowKit

set_option maxRecDepth 100000 in
set_option maxHeartbeats 12800000 in
theorem parted_any : ∀ (t : Tr) (v : Value) (w : World), InT w w.heap.size t v → Calls Try.prog 40 #[v] w (Two (splitT t) w) := by
  intro t
  induction t with
  | leaf b =>
    rintro v w ⟨A, c, rfl⟩
    have HX := Lib.hid ((((XS.begin w).boxed (.bool b) (.slice A 0 c)).fresh (.bool false) (.slice none 0 0)).fresh (.bool false) (.slice none 0 0))
    simp only [List.nil_append, List.cons_append, World.size_alloc] at HX
    unfold tv
    cases b with
    | false =>
      have hXD := HX.out.drew
      clear HX
      go_enter Try.func40, Try.ntmps40
      go_wp2
      refine wp_region_held_drew (S := fun W => XS w [(w.heap.size, .bool false, .slice A 0 c)] [w.heap.size + 1, w.heap.size + 1 + 1] W) (by kernel_rfl) hXD (fun hS => ?_)
      clear hXD
      generalize (((w.alloc (.cells #[.bool false, .slice A 0 c] 24)).alloc (.cells #[.bool false, .slice none 0 0] 24)).alloc (.cells #[.bool false, .slice none 0 0] 24)).drew = wd at hS ⊢
      refine wpAnyH_take (i := 0) (v := ?_) rfl (by kernel_rfl) (by kernel_rfl) (by kernel_rfl) (fun _ _ _ h => h) (Or.inl ⟨by kernel_rfl, fun W hW => ?_⟩) hS ?_
      rotate_left
      · have f := hW.at0
        simp only [List.mem_cons, List.not_mem_nil, or_false, forall_eq] at f
        obtain ⟨p0, q0, _⟩ := f
        first | (go_simp; done) | (go_simp; with_reducible rfl)
      refine wpAnyH_take (i := 1) (v := ?_) rfl (by kernel_rfl) (by kernel_rfl) (by kernel_rfl) (fun _ _ _ h => h) (Or.inl ⟨by kernel_rfl, fun W hW => ?_⟩) hS ?_
      rotate_left
      · have f := hW.at0
        simp only [List.mem_cons, List.not_mem_nil, or_false, forall_eq] at f
        obtain ⟨p0, q0, _⟩ := f
        first | (go_simp; done) | (go_simp; with_reducible rfl)
      have HFIN := Lib.hid (hS.two (s := .leaf false) (t := .leaf false) (x := tv false A 0 c) (y := tv false A 0 c) ⟨A, c, rfl⟩ ⟨A, c, rfl⟩ (w.heap.size + 1) (w.heap.size + 1 + 1) (by simp) (by simp) (.bool false) (.slice A 0 c) (.bool false) (.slice A 0 c) (by simp <;> omega) (by simp <;> omega))
      have HS1 := Lib.hid ((hS.store (w.heap.size + 1) 0 (.bool false) (by simp) (by simp <;> omega)).store (w.heap.size + 1) 1 (.slice A 0 c) (by simp) (by simp <;> omega))
      have HS2 := Lib.hid ((HS1.out.store (w.heap.size + 1 + 1) 0 (.bool false) (by simp) (by simp <;> omega)).store (w.heap.size + 1 + 1) 1 (.slice A 0 c) (by simp) (by simp <;> omega))
      obtain ⟨y0, y1, ⟨d0, d1⟩, f0, f1⟩ := hS.facts (w.heap.size + 1) (by simp)
      obtain ⟨y2, y3, ⟨d2, d3⟩, f2, f3⟩ := hS.facts (w.heap.size + 1 + 1) (by simp)
      clear hS
      refine wpAnyH_ready (rs := [2]) (by kernel_rfl) (by simp) ?_
      refine AllReadyH.cons rfl (fun K hK => ?_) AllReadyH.nil
      go_simp
      go_wp2
      refine hK.out _ _ HS1.out (fun _ => ?_)
      clear hK K
      refine wpAnyH_ready (rs := [3]) (by kernel_rfl) (by simp) ?_
      refine AllReadyH.cons rfl (fun K hK => ?_) AllReadyH.nil
      go_simp
      go_wp2
      refine hK.out _ _ HS2.out (fun _ => ?_)
      clear hK K HS1 HS2
      refine wpAnyH_done (by kernel_rfl) ?_ _
      go_wp2
      refine bodyPost_ret (v := .tuple #[tv false A 0 c, tv false A 0 c]) (by simp [results, Try.f40, go_sem, tv, d0, d1, d2, d3]) rfl ?_
      exact HFIN.out
    | true =>
      go_enter Try.func40, Try.ntmps40
      go_wp2_with fail
      refine (leaf_any true _).mono ?_
      rintro e w1 ⟨rfl, hb1⟩
      have HX1 := Lib.hid (HX.out.next hb1)
      clear hb1 HX
      unfold tv
      go_wp2_with fail
      refine (leaf_any false _).mono ?_
      rintro e w2 ⟨rfl, hb2⟩
      have HX2 := Lib.hid ((HX1.out.next hb2).next (new_below w2 (.cells #[.bool true, .slice none 0 0, .bool false, .slice none 0 0] 24)))
      have HN1 := Lib.hid (pair_new (W := w2) (x := .leaf true) (y := .leaf false) ⟨none, 0, rfl⟩ ⟨none, 0, rfl⟩)
      clear hb2 HX1
      unfold tv
      go_wp2_with fail
      refine (leaf_any false _).mono ?_
      rintro e w3 ⟨rfl, hb3⟩
      have HX3 := Lib.hid (HX2.out.next hb3)
      have HN2 := Lib.hid (HN1.out.up hb3)
      clear hb3 HX2 HN1
      unfold tv
      go_wp2_with fail
      refine (leaf_any true _).mono ?_
      rintro e w4 ⟨rfl, hb4⟩
      have HX4 := Lib.hid ((HX3.out.next hb4).next (new_below w4 (.cells #[.bool false, .slice none 0 0, .bool true, .slice none 0 0] 24)))
      have HN3 := Lib.hid ((HN2.out.up hb4).up (new_below w4 (.cells #[.bool false, .slice none 0 0, .bool true, .slice none 0 0] 24)))
      have HN4 := Lib.hid (pair_new (W := w4) (x := .leaf false) (y := .leaf true) ⟨none, 0, rfl⟩ ⟨none, 0, rfl⟩)
      clear hb4 HX3 HN2
      unfold tv
      obtain ⟨y0, y1, ⟨d0, d1⟩, f0, f1⟩ := HX4.out.facts (w.heap.size + 1) (by simp)
      obtain ⟨y2, y3, ⟨d2, d3⟩, f2, f3⟩ := HX4.out.facts (w.heap.size + 1 + 1) (by simp)
      have HFIN := Lib.hid (HX4.out.two HN3.out HN4.out (w.heap.size + 1) (w.heap.size + 1 + 1) (by simp) (by simp) (.bool false) (.slice (some ⟨w2.heap.size, 0, none⟩) 2 2) (.bool false) (.slice (some ⟨w4.heap.size, 0, none⟩) 2 2) (by simp) (by simp; omega))
      clear HX4 HN3 HN4
      go_wp2
      refine bodyPost_ret (v := .tuple #[tv false (some ⟨w2.heap.size, 0, none⟩) 2 2, tv false (some ⟨w4.heap.size, 0, none⟩) 2 2]) (by simp [results, Try.f40, go_sem, tv, d0, d1, d2, d3]) rfl ?_
      exact HFIN.out
  | node x y ihx ihy =>
    rintro v w ⟨b, off, c, rfl, hb, ⟨o1, A1, n1, c1, e1, e2, e3⟩, ⟨o2, A2, n2, c2, g1, g2, g3⟩⟩
    rcases e3.leafy with ⟨rfl, rfl⟩ | ⟨rfl, rfl, lx, rx, rfl⟩
    · cases o1 with
      | false => exact parted_B y ihy w b off c A1 A2 c1 c2 o2 n2 hb e1 e2 g1 g2 e3 g3
      | true =>
        rcases g3.leafy with ⟨rfl, rfl⟩ | ⟨rfl, rfl, ly, ry, rfl⟩
        · cases o2 with
          | false => exact parted_C1 ihx w b off c A1 A2 c1 c2 hb e1 e2 g1 g2 e3 g3
          | true => exact parted_D1 w b off c A1 A2 c1 c2 hb e1 e2 g1 g2 e3 g3
        · exact parted_D2 ly ry w b off c A1 A2 c1 c2 hb e1 e2 g1 g2 e3 g3
    · rcases g3.leafy with ⟨rfl, rfl⟩ | ⟨rfl, rfl, ly, ry, rfl⟩
      · cases o2 with
        | false => exact parted_C2 lx rx ihx w b off c A1 A2 c1 c2 hb e1 e2 g1 g2 e3 g3
        | true => exact parted_D3 lx rx w b off c A1 A2 c1 c2 hb e1 e2 g1 g2 e3 g3
      · exact parted_D4 lx rx ly ry w b off c A1 A2 c1 c2 hb e1 e2 g1 g2 e3 g3
end Go.Proofs.Ytkpefelakhbkhaa.I
