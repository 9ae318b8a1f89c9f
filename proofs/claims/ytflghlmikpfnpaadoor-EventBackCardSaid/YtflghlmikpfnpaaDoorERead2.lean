/-
  The program's read, as a whole: a tree off a source.
-/
import Derived.Test.YtflghlmikpfnpaaDoorERead
import Derived.Laws.EntriesVeiled
namespace Go.Proofs.YtflghlmikpfnpaaDoor.E
open Go.RowKit

set_option maxRecDepth 100000 in
set_option maxHeartbeats 3200000 in
theorem read_any {base ga : Nat} {S : Src} {fI fN fM : Nat} {lI lN lM : Array Value} {R : Nat → World → Prop} (hs : SrcW base ga S fI fN fM lI lN lM R)
    (eI : ∀ args w, (callFunc fI args).run Tryd.prog w = .ok (.enter fI args) w) (eN : ∀ args w, (callFunc fN args).run Tryd.prog w = .ok (.enter fN args) w) (eM : ∀ args w, (callFunc fM args).run Tryd.prog w = .ok (.enter fM args) w)
    (p : Nat) (w : World) (hR : R p w) (hb : base ≤ w.heap.size) :
    Calls Tryd.prog 51 #[.agg #[.func (.func fI) #[] lI, .func (.func fN) #[] lN, .func (.func fM) #[] lM]] w fun e W' =>
      KB (fun k => k = ga) w W' ∧ ((∃ t p' c' v, rd S 34 p 0 0 0 = some (t, p', c') ∧ e = .returned (.tuple #[v, .bool true]) ∧ InP (New w W') W' t v ∧ R p' W') ∨ (rd S 34 p 0 0 0 = none ∧ e = .returned (.tuple #[tv 0 none 0 0, .bool false]))) := by
  have hga := hs.lt
  obtain ⟨W4, hW4⟩ : ∃ W4, (((w.alloc (.cells #[.func (.func fI) #[] lI, .func (.func fN) #[] lN, .func (.func fM) #[] lM] 74)).alloc (.cells #[.int .i64 0, .slice none 0 0] 24)).alloc (.cells #[.int .i64 0] 3)).alloc (.cells #[.func (.func 77) #[] #[.pointer (some ⟨w.heap.size + 1 + 1, 0, none⟩), .pointer (some ⟨w.heap.size, 0, none⟩), .pointer (some ⟨w.heap.size + 1 + 1 + 1, 0, none⟩)]] 96) = W4 := ⟨_, rfl⟩
  have hB4 : Below w.heap.size w W4 := by rw [← hW4]; exact four_boxes w _ _ _ _
  have hs4 : W4.heap.size = w.heap.size + 4 := by rw [← hW4]; simp
  have hR4 : R p W4 := hs.st p w W4 hR hb hB4.size (fun k hk => hB4.block k (by omega))
  have hC4 : Boxed W4 (w.heap.size + 1 + 1) 3 (.int .i64 ((0 : Nat) : Int)) := by
    have h := (Boxed.new ((w.alloc (.cells #[.func (.func fI) #[] lI, .func (.func fN) #[] lN, .func (.func fM) #[] lM] 74)).alloc (.cells #[.int .i64 0, .slice none 0 0] 24)) 3 (.int .i64 0)).alloc (.cells #[.func (.func 77) #[] #[.pointer (some ⟨w.heap.size + 1 + 1, 0, none⟩), .pointer (some ⟨w.heap.size, 0, none⟩), .pointer (some ⟨w.heap.size + 1 + 1 + 1, 0, none⟩)]] 96)
    rw [hW4] at h
    simp only [World.size_alloc] at h
    exact h
  have hX4 : Box2 W4 (w.heap.size + 1) := by
    rw [← hW4]
    have h := (((Box2.new (w.alloc (.cells #[.func (.func fI) #[] lI, .func (.func fN) #[] lN, .func (.func fM) #[] lM] 74)) (.int .i64 0) (.slice none 0 0) 24).below ((Below.refl _ _).alloc (Nat.le_refl _) (.cells #[.int .i64 0] 3)) (by simp)).below ((Below.refl _ _).alloc (Nat.le_refl _) (.cells #[.func (.func 77) #[] #[.pointer (some ⟨w.heap.size + 1 + 1, 0, none⟩), .pointer (some ⟨w.heap.size, 0, none⟩), .pointer (some ⟨w.heap.size + 1 + 1 + 1, 0, none⟩)]] 96)) (by simp))
    simpa only [World.size_alloc] using h
  have f0 : W4.cell? ⟨w.heap.size, 0, none⟩ = some (.func (.func fI) #[] lI) := by rw [← hW4]; simp [go_sem]
  have f1 : W4.cell? ⟨w.heap.size, 1, none⟩ = some (.func (.func fN) #[] lN) := by rw [← hW4]; simp [go_sem]
  have f2 : W4.cell? ⟨w.heap.size, 2, none⟩ = some (.func (.func fM) #[] lM) := by rw [← hW4]; simp [go_sem]
  have f3 : W4.cell? ⟨w.heap.size + 1 + 1 + 1, 0, none⟩ = some (.func (.func 77) #[] #[.pointer (some ⟨w.heap.size + 1 + 1, 0, none⟩), .pointer (some ⟨w.heap.size, 0, none⟩), .pointer (some ⟨w.heap.size + 1 + 1 + 1, 0, none⟩)]) := by rw [← hW4]; simp [go_sem]
  have hcT := tree_read hs eI eN eM (w.heap.size + 1 + 1) w.heap.size (w.heap.size + 1 + 1 + 1) (by omega) (by omega) (by omega) (by omega) (by omega) 34 p 0 0 0 W4 hR4 hC4 f0 f1 f2 f3 (by omega) (by omega) (by omega) (by omega) (by omega) (by omega)
  have HX4 := Lib.hid hX4
  have HB4 := Lib.hid hB4
  have HST := Lib.hid hs.st
  have HW4 := Lib.hid hW4
  clear hX4 hC4 hR4 hB4 hW4 f0 f1 f2 f3
  go_enter Tryd.func51, Tryd.ntmps51
  go_wp2_with fail
  rw [HW4.out]
  refine hcT.mono ?_
  rintro e w5 ⟨hk5, hcase⟩
  obtain ⟨cs, ty, hx1, hx2⟩ := HX4.out
  have hX5 : Box2 w5 (w.heap.size + 1) := ⟨cs, ty, (hk5.same _ (by omega) (by omega)).trans hx1, hx2⟩
  have hk : KB (fun k => k = ga) w w5 := ⟨hk5.os.trans HB4.out.os, hk5.tape.trans HB4.out.tape, hk5.output.trans HB4.out.output, Nat.le_trans HB4.out.size hk5.size, fun k h1 h2 => (hk5.same k (by omega) (by omega)).trans (HB4.out.block k h1)⟩
  have hsz5 : base ≤ w5.heap.size := Nat.le_trans hb hk.size
  obtain ⟨u0, u1, ⟨y0, y1⟩, y2, y3⟩ := hX5.facts
  have HK : Hid (∀ u1 u2, KB (fun k => k = ga) w ((w5.setCell ⟨w.heap.size + 1, 0, none⟩ u1).setCell ⟨w.heap.size + 1, 1, none⟩ u2)) := fun u1 u2 => (hk.storeNew (p := ⟨w.heap.size + 1, 0, none⟩) (by show _ ≤ _ + 1; omega) _).storeNew (p := ⟨w.heap.size + 1, 1, none⟩) (by show _ ≤ _ + 1; omega) _
  clear hcT hk HX4 hx1
  rcases hcase with ⟨t, p', c', v, hr, rfl, hin, hR5, hC5⟩ | ⟨hr, rfl⟩
  · obtain ⟨A, n, c, rfl⟩ := hin.form
    have HIN : Hid (∀ u1 u2, InP (New w ((w5.setCell ⟨w.heap.size + 1, 0, none⟩ u1).setCell ⟨w.heap.size + 1, 1, none⟩ u2)) ((w5.setCell ⟨w.heap.size + 1, 0, none⟩ u1).setCell ⟨w.heap.size + 1, 1, none⟩ u2) t (tv t.N A n c)) := fun u1 u2 => (InP.set2 (hX5.set _) (InP.set2 hX5 hin)).more fun b h => ⟨by have := h.1; omega, by rw [size_set, size_set]; exact h.2⟩
    have HR : Hid (∀ u1 u2, R p' ((w5.setCell ⟨w.heap.size + 1, 0, none⟩ u1).setCell ⟨w.heap.size + 1, 1, none⟩ u2)) := fun u1 u2 => R_set2 (base := base) (R := R) HST.out (p := p') (W := w5) hR5 hsz5 (by omega) u1 u2
    have HRD := Lib.hid hr
    clear hr hR5 hin hC5
    generalize t.N = tn at *
    unfold tv
    go_wp2
    refine bodyPost_ret (v := .tuple #[tv tn A n c, .bool true]) (by simp [results, Tryd.f51, go_sem, tv, y0, y1]) rfl ?_
    exact ⟨HK.out _ _, .inl ⟨t, p', c', _, HRD.out, rfl, HIN.out _ _, HR.out _ _⟩⟩
  · have HRD := Lib.hid hr
    clear hr
    unfold tv
    go_wp2
    refine bodyPost_ret (v := .tuple #[tv 0 none 0 0, .bool false]) (by simp [results, Tryd.f51, go_sem, tv, y0, y1]) rfl ?_
    exact ⟨HK.out _ _, .inr ⟨HRD.out, rfl⟩⟩
end Go.Proofs.YtflghlmikpfnpaaDoor.E
