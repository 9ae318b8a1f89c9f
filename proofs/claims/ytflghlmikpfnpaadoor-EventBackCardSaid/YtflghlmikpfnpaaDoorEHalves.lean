/-
  The program's halves, join.
-/
import Derived.Test.YtflghlmikpfnpaaDoorENorm
import Derived.BigQuiet
namespace Go.Proofs.YtflghlmikpfnpaaDoor.E
open Go.RowKit

def half1 : Tr → Tr
  | .leaf _ => .leaf 0
  | .node _ l _ => l
def half2 : Tr → Tr
  | .leaf _ => .leaf 0
  | .node _ _ r => r
/-- Two trees are handed back, of the blocks of the one that came in. -/
def Halves (P : Nat → Prop) (t : Tr) (w : World) (e : Ending) (w' : World) : Prop := ∃ u v, e = .returned (.tuple #[u, v]) ∧ InP P w' (half1 t) u ∧ InP P w' (half2 t) v ∧ Below w.heap.size w w'
set_option maxRecDepth 100000 in
set_option maxHeartbeats 3200000 in
theorem halves_any (t : Tr) (P : Nat → Prop) (v : Value) (w : World) (h : InP P w t v) : Calls Tryd.prog 74 #[v] w (Halves P t w) := by
  cases t with
  | leaf o =>
    obtain ⟨A, c, rfl⟩ := h
    have HX := Lib.hid ((((XS.begin w).boxed (.int .i64 o) (.slice A 0 c) 24).fresh (.int .i64 0) (.slice none 0 0) 24).fresh (.int .i64 0) (.slice none 0 0) 24)
    simp only [List.nil_append, List.cons_append, World.size_alloc] at HX
    have hc := pleaf_any o A 0 c (((w.alloc (.cells #[.int .i64 o, .slice A 0 c] 24)).alloc (.cells #[.int .i64 0, .slice none 0 0] 24)).alloc (.cells #[.int .i64 0, .slice none 0 0] 24))
    unfold tv at hc ⊢
    go_enter Tryd.func74, Tryd.ntmps74
    go_wp2_with fail
    refine hc.mono ?_
    rintro e w1 ⟨rfl, hb1⟩
    have HX1 := Lib.hid (HX.out.next hb1)
    obtain ⟨u0, u1, ⟨c0, c1'⟩, f0, f1⟩ := HX1.out.facts (w.heap.size + 1) (by simp)
    obtain ⟨v0, v1, ⟨d0, d1'⟩, g0, g1⟩ := HX1.out.facts (w.heap.size + 1 + 1) (by simp)
    have HFIN : Hid (∀ u1 u2 u3 u4, Below w.heap.size w ((((w1.setCell ⟨w.heap.size + 1, 0, none⟩ u1).setCell ⟨w.heap.size + 1, 1, none⟩ u2).setCell ⟨w.heap.size + 1 + 1, 0, none⟩ u3).setCell ⟨w.heap.size + 1 + 1, 1, none⟩ u4)) := fun u1 u2 u3 u4 => ((((HX1.out.sub (bs' := []) (rs' := [w.heap.size + 1, w.heap.size + 1 + 1]) (by simp) (by simp)).store (w.heap.size + 1) 0 u1 (by simp) (by simp)).store (w.heap.size + 1) 1 u2 (by simp) (by simp)).store (w.heap.size + 1 + 1) 0 u3 (by simp) (by simp)).store (w.heap.size + 1 + 1) 1 u4 (by simp) (by simp) |>.bel
    clear hb1 hc HX HX1
    go_wp2
    refine bodyPost_ret (v := .tuple #[tv 0 none 0 0, tv 0 none 0 0]) (by simp [results, Tryd.f74, go_sem, tv, c0, c1', d0, d1']) rfl ?_
    exact ⟨_, _, rfl, zero_in _ _, zero_in _ _, HFIN.out _ _ _ _⟩
  | node n x y =>
    obtain ⟨b, off, c, rfl, hb, ⟨o1, A1, n1, c1, e1, e2, e3⟩, ⟨o2, A2, n2, c2, g1, g2, g3⟩⟩ := h
    have hbs : b < w.heap.size := World.block_lt_of_cell? w _ e1
    have HX := Lib.hid ((((XS.begin w).boxed (.int .i64 n) (.slice (some ⟨b, off, none⟩) 2 c) 24).fresh (.int .i64 0) (.slice none 0 0) 24).fresh (.int .i64 0) (.slice none 0 0) 24)
    simp only [List.nil_append, List.cons_append, World.size_alloc] at HX
    have hc := pleaf_any n (some ⟨b, off, none⟩) 2 c (((w.alloc (.cells #[.int .i64 n, .slice (some ⟨b, off, none⟩) 2 c] 24)).alloc (.cells #[.int .i64 0, .slice none 0 0] 24)).alloc (.cells #[.int .i64 0, .slice none 0 0] 24))
    have HF : Hid (∀ W, XS w [(w.heap.size, 0, .int .i64 n), (w.heap.size, 1, .slice (some ⟨b, off, none⟩) 2 c)] [w.heap.size, w.heap.size + 1, w.heap.size + 1 + 1] W → W.cell? ⟨w.heap.size, 0, none⟩ = some (.int .i64 n) ∧ W.cell? ⟨w.heap.size, 1, none⟩ = some (.slice (some ⟨b, off, none⟩) 2 c) ∧ W.cell? ⟨b, off, none⟩ = some (.int .i64 o1) ∧ W.cell? ⟨b, off + 1, none⟩ = some (.slice A1 n1 c1) ∧ W.cell? ⟨b, off + 2, none⟩ = some (.int .i64 o2) ∧ W.cell? ⟨b, off + 2 + 1, none⟩ = some (.slice A2 n2 c2)) := fun W hW => by
      have low : ∀ i, W.cell? ⟨b, i, none⟩ = w.cell? ⟨b, i, none⟩ := fun i => hW.bel.cell hbs
      exact ⟨hW.get (by simp), hW.get (by simp), (low _).trans e1, (low _).trans e2, (low _).trans g1, (low _).trans g2⟩
    have HT1 := Lib.hid e3
    have HT2 := Lib.hid g3
    unfold tv at hc ⊢
    clear e1 e2 e3 g1 g2 g3
    go_enter Tryd.func74, Tryd.ntmps74
    go_wp2_with fail
    refine hc.mono ?_
    rintro e w1 ⟨rfl, hb1⟩
    have hXD := (HX.out.next hb1).drew
    clear hb1 hc HX
    go_wp2
    refine wp_region_held_drew (S := fun W => XS w [(w.heap.size, 0, .int .i64 n), (w.heap.size, 1, .slice (some ⟨b, off, none⟩) 2 c)] [w.heap.size, w.heap.size + 1, w.heap.size + 1 + 1] W) (by kernel_rfl) hXD (fun hS => ?_)
    clear hXD
    generalize w1.drew = wd at hS ⊢
    refine wpAnyH_take (i := 0) (v := ?_) rfl (by kernel_rfl) (by kernel_rfl) (by kernel_rfl) (fun _ _ _ h => h) (Yields.yieldsIf (Or.inl ⟨by kernel_rfl, ?_⟩)) hS ?_
    rotate_left
    · first | (intro w; go_simp; done) | (intro w; go_simp; with_reducible rfl)
    refine wpAnyH_take (i := 1) (v := ?_) rfl (by kernel_rfl) (by kernel_rfl) (by kernel_rfl) (fun _ _ _ h => h) (Or.inl ⟨by kernel_rfl, fun W hW => ?_⟩) hS ?_
    rotate_left
    · obtain ⟨f0, f1, f2, f3, f4, f5⟩ := HF.out W hW
      first | (go_simp; done) | (go_simp; with_reducible rfl)
    refine wpAnyH_take (i := 2) (v := ?_) rfl (by kernel_rfl) (by kernel_rfl) (by kernel_rfl) (fun _ _ _ h => h) (Yields.yieldsIf (Or.inl ⟨by kernel_rfl, ?_⟩)) hS ?_
    rotate_left
    · first | (intro w; go_simp; done) | (intro w; go_simp; with_reducible rfl)
    refine wpAnyH_take (i := 3) (v := ?_) rfl (by kernel_rfl) (by kernel_rfl) (by kernel_rfl) (fun _ _ _ h => h) (Or.inl ⟨by kernel_rfl, fun W hW => ?_⟩) hS ?_
    rotate_left
    · obtain ⟨f0, f1, f2, f3, f4, f5⟩ := HF.out W hW
      first | (go_simp; done) | (go_simp; with_reducible rfl)
    refine wpAnyH_take (i := 4) (v := ?_) rfl (by kernel_rfl) (by kernel_rfl) (by kernel_rfl) (fun _ _ _ h => h) (Yields.yieldsIf (Or.inl ⟨by kernel_rfl, ?_⟩)) hS ?_
    rotate_left
    · first | (intro w; go_simp; done) | (intro w; go_simp; with_reducible rfl)
    refine wpAnyH_take (i := 5) (v := ?_) rfl (by kernel_rfl) (by kernel_rfl) (by kernel_rfl) (fun _ _ _ h => h) (Or.inl ⟨by kernel_rfl, fun W hW => ?_⟩) hS ?_
    rotate_left
    · obtain ⟨f0, f1, f2, f3, f4, f5⟩ := HF.out W hW
      first | (go_simp; done) | (go_simp; with_reducible rfl)
    refine wpAnyH_take (i := 6) (v := ?_) rfl (by kernel_rfl) (by kernel_rfl) (by kernel_rfl) (fun _ _ _ h => h) (Yields.yieldsIf (Or.inl ⟨by kernel_rfl, ?_⟩)) hS ?_
    rotate_left
    · first | (intro w; go_simp; done) | (intro w; go_simp; with_reducible rfl)
    refine wpAnyH_take (i := 7) (v := ?_) rfl (by kernel_rfl) (by kernel_rfl) (by kernel_rfl) (fun _ _ _ h => h) (Or.inl ⟨by kernel_rfl, fun W hW => ?_⟩) hS ?_
    rotate_left
    · obtain ⟨f0, f1, f2, f3, f4, f5⟩ := HF.out W hW
      first | (go_simp; done) | (go_simp; with_reducible rfl)
    have HS := Lib.hid hS
    obtain ⟨u0, u1, ⟨c0, c1'⟩, f0, f1⟩ := hS.facts (w.heap.size + 1) (by simp)
    obtain ⟨v0, v1, ⟨d0, d1'⟩, g0, g1⟩ := hS.facts (w.heap.size + 1 + 1) (by simp)
    clear hS HF
    have HX1 : Hid (∀ u1 u2, XS w [(w.heap.size, 0, .int .i64 n), (w.heap.size, 1, .slice (some ⟨b, off, none⟩) 2 c)] [w.heap.size, w.heap.size + 1, w.heap.size + 1 + 1] ((wd.setCell ⟨w.heap.size + 1, 0, none⟩ u1).setCell ⟨w.heap.size + 1, 1, none⟩ u2)) := fun u1 u2 => (HS.out.store (w.heap.size + 1) 0 u1 (by simp) (by simp)).store (w.heap.size + 1) 1 u2 (by simp) (by simp)
    have HX2 : Hid (∀ u1 u2 u3 u4, XS w [(w.heap.size, 0, .int .i64 n), (w.heap.size, 1, .slice (some ⟨b, off, none⟩) 2 c)] [w.heap.size, w.heap.size + 1, w.heap.size + 1 + 1] ((((wd.setCell ⟨w.heap.size + 1, 0, none⟩ u1).setCell ⟨w.heap.size + 1, 1, none⟩ u2).setCell ⟨w.heap.size + 1 + 1, 0, none⟩ u3).setCell ⟨w.heap.size + 1 + 1, 1, none⟩ u4)) := fun u1 u2 u3 u4 => ((HX1.out u1 u2).store (w.heap.size + 1 + 1) 0 u3 (by simp) (by simp <;> omega)).store (w.heap.size + 1 + 1) 1 u4 (by simp) (by simp <;> omega)
    refine wpAnyH_ready (rs := [8]) (by kernel_rfl) (by simp) ?_
    refine AllReadyH.cons rfl (fun K hK => ?_) AllReadyH.nil
    go_simp
    go_wp2
    refine hK.out _ _ (HX1.out _ _) (fun _ => ?_)
    clear hK K
    refine wpAnyH_ready (rs := [9]) (by kernel_rfl) (by simp) ?_
    refine AllReadyH.cons rfl (fun K hK => ?_) AllReadyH.nil
    go_simp
    go_wp2
    refine hK.out _ _ (HX2.out _ _ _ _) (fun _ => ?_)
    clear hK K
    refine wpAnyH_done (by kernel_rfl) ?_ _
    go_wp2
    refine bodyPost_ret (v := .tuple #[tv o1 A1 n1 c1, tv o2 A2 n2 c2]) (by simp [results, Tryd.f74, go_sem, tv, c0, c1', d0, d1']) rfl ?_
    have hx := HX2.out (.int .i64 o1) (.slice A1 n1 c1) (.int .i64 o2) (.slice A2 n2 c2)
    exact ⟨_, _, rfl, HT1.out.stay hx.bel, HT2.out.stay hx.bel, hx.bel⟩
end Go.Proofs.YtflghlmikpfnpaaDoor.E
