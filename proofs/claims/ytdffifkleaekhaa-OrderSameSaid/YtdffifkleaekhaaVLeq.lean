/-
  The program's Leq.
-/
import Derived.Test.YtdffifkleaekhaaVPush
namespace Go.Proofs.Ytdffifkleaekhaa.V
open Go.RowKit Go.Shelf
set_option linter.unusedVariables false
set_option linter.unusedSimpArgs false
attribute [local go_sem] Oper.semAt_some

def leqB (a b : List D) : Bool := rightB a && rightB b && leqV a b
def leqM (xs : List T) : Bool := xs.all fun z => decide (z.2.1 ≤ z.2.2)
theorem results_cell {fn : Func} {p : Tmp} {ty : TypeId} (h : fn.results = #[.cell p ty]) (tmps : Array Value) (P : Program) (w : World) :
    (results fn tmps).run P w = ((asAddr (tmps.getD p undef)).run P w).andThen fun a w₁ => (loadVar ty a).run P w₁ := by
  simp only [results, h]
  simp [Sem.run_bind, Result.andThen]
theorem leqM_snoc (pre : List T) (z : T) : leqM (pre ++ [z]) = (leqM pre && decide (z.2.1 ≤ z.2.2)) := by simp [leqM]
theorem leqM_pre {pre xs : List T} (h : pre <+: xs) (hf : leqM pre = false) : leqM xs = false := by
  obtain ⟨t, rfl⟩ := h
  unfold leqM at *
  rw [List.all_append, hf]; rfl
theorem allR_two (x y : Vc) : allR [x, y] = (rightB x.l && rightB y.l) := by simp [allR]

theorem two_own {W W' : World} {row : Option Nat} {k : Nat} {u v : Value} (h : Two W k u v) (hg : W.grownBy W' row) (hr : ∀ r, row = some r → ∃ o : Obj, W.heap[r]? = some o ∧ o.isCells = false) : Two W' k u v := by
  refine (hg.block k h.lt fun e => ?_).trans h
  obtain ⟨o, ho, hc⟩ := hr k e.symm
  rw [show W.heap[k]? = _ from h] at ho
  cases ho; cases hc
set_option maxRecDepth 100000 in
set_option maxHeartbeats 1000000 in
theorem leq_any {x y : Vc} {w : World} (hx : x.ok w w.heap.size) (hy : y.ok w w.heap.size) : Calls Try.prog 87 #[x.v, y.v] w fun e w' => e = .returned (.bool (leqB x.l y.l)) ∧ Below w.heap.size w w' := by
  have hxy := Lib.hid (And.intro hx hy)
  have hb1 : Below w.heap.size w (w.alloc (.cells #[.bool false] 4)) := (Below.refl _ w).alloc (Nat.le_refl _) _
  have hrow := rowL_two (hx.up hb1) (hy.up hb1)
  have hcall := (callsIn_wide (n := 2)).2 (allRight_any 2 hrow (by simp))
  rw [allR_two] at hcall
  have hXY : leqB x.l y.l = ((rightB x.l && rightB y.l) && leqV x.l y.l) := rfl
  rw [hXY]
  obtain ⟨R, hR⟩ : ∃ R, (rightB x.l && rightB y.l) = R := ⟨_, rfl⟩
  rw [hR] at hcall ⊢
  clear hXY hrow hb1 hx hy
  obtain ⟨xA, xc, xl⟩ := x
  obtain ⟨yA, yc, yl⟩ := y
  simp only [Vc.v, World.size_alloc, List.length_cons, List.length_nil, Nat.reduceAdd] at *
  obtain ⟨n, hn⟩ : ∃ n, xl.length = n := ⟨_, rfl⟩
  obtain ⟨m, hm⟩ : ∃ m, yl.length = m := ⟨_, rfl⟩
  rw [hn, hm] at hcall ⊢
  have HN := Lib.hid (And.intro hn hm)
  clear hn hm
  refine (callsIn_wide (n := 3)).1 ?_
  refine callsIn_of_wp_marks Try.func87 rfl trivial ?_ rfl
  simp only [Try.ntmps87, List.size_toArray, List.length_cons, List.length_nil, Nat.reduceAdd, Nat.reduceSub, Array.replicate_succ, Array.replicate_zero, List.push_toArray, List.append_toArray, List.nil_append, List.cons_append]
  gi_wp2_with fail
  refine ⟨trivial, ?_⟩
  refine hcall.mono ?_
  rintro e w2 ⟨rfl, hb2⟩
  clear hcall
  have hb3 : Below w.heap.size w w2 := (((Below.refl _ w).alloc (Nat.le_refl _) (.cells #[.bool false] 4)).alloc (by simp) (.cells #[.slice xA n xc, .slice yA m yc] 24)).trans (hb2.mono (by omega))
  have hbx : Boxed w2 w.heap.size 4 (.bool false) := boxed_below ((Boxed.new w 4 (.bool false)).alloc _) hb2 (by omega)
  have hs2 : w.heap.size + 2 ≤ w2.heap.size := by have := hb2.size; simp only [World.size_alloc] at this; omega
  clear hb2
  have hc0 := hbx.cell
  have hf0 := hbx.frozen
  cases R with
  | false =>
    have HB3 := Lib.hid (hb3.setCell (p := ⟨w.heap.size, 0, none⟩) (Nat.le_refl _) (.bool false))
    have hc1 := (hbx.set (.bool false)).cell
    clear hb3 hbx hs2
    gi_wp2
    exact ⟨.bool false, by rw [results_cell rfl]; go_simp, by simp, HB3.out⟩
  | true =>
    obtain ⟨rx, ry⟩ := Bool.and_eq_true_iff.1 hR
    have hM := leq_mrg (right_srt rx) (right_srt ry) (right_pos rx) (right_pos ry) (xl.length + yl.length) (Nat.le_refl _)
    have HM := Lib.hid hM
    clear hM rx ry
    gi_wp2_with fail
    refine ⟨trivial, ?_⟩
    gi_at_call 99
    refine (together_in _ xA yA n xc m yc _).mono ?_
    rintro e w' ⟨rfl, rfl⟩
    obtain ⟨W0, hW0⟩ : ∃ W0, (w2.alloc (.cells #[.slice xA n xc] 24)).alloc (.cells #[.slice yA m yc] 24) = W0 := ⟨_, rfl⟩
    have hs0 : W0.heap.size = w2.heap.size + 2 := by rw [← hW0]; simp
    have hb0 : Below w.heap.size w W0 := by rw [← hW0]; exact (hb3.alloc (by omega) _).alloc (by simp; omega) _
    have a0 : W0.cell? ⟨w2.heap.size, 0, none⟩ = some (.slice xA n xc) := by rw [← hW0]; simp [go_sem]
    have a1 : W0.cell? ⟨w2.heap.size + 1, 0, none⟩ = some (.slice yA m yc) := by rw [← hW0]; simp [go_sem]
    have bx0 : Boxed W0 w.heap.size 4 (.bool false) := by rw [← hW0]; exact (hbx.alloc _).alloc _
    rw [← HN.out.1] at a0
    rw [← HN.out.2] at a1
    have hseq := tog_seq ⟨xA, xc, xl⟩ ⟨yA, yc, yl⟩ w2.heap.size (w2.heap.size + 1) w.heap.size (xl.length + yl.length) (fun k => k = w.heap.size) (fun _ => True) W0 (hxy.out.1.below hb0) (hxy.out.2.below hb0) (Nat.le_refl _) (by omega) (fun k hk h => by omega) (by omega) (by omega) a0 a1
    rw [hW0]
    clear a0 a1 hW0 hb3 hbx hc0 hf0 hxy
    gi_wp2
    refine range_own (gf := 106) (lb := #[.pointer (some ⟨w2.heap.size, 0, none⟩), .pointer (some ⟨w2.heap.size + 1, 0, none⟩)]) rfl (enters_of Try.func106 (by kernel_rfl) rfl) hseq (by show ¬ W0.heap.size = w.heap.size; omega) (by show ¬ W0.heap.size + 1 = w.heap.size; omega) (Below.refl _ _) (fun _ => rfl)
      (fun q V => Boxed V w.heap.size 4 (.bool false) ∧ Below w.heap.size w V ∧ leqM q = true)
      (fun cd q V => cd = .ret ∧ Boxed V w.heap.size 4 (.bool false) ∧ Below w.heap.size w V ∧ leqM q = false)
      (OwnFrom.and ((boxed_own _ _ _).from _) (OwnFrom.and (ownFrom_below (Nat.le_refl _) (by omega)) (ownFrom_pure _ _)))
      (fun cd => OwnFrom.and (ownFrom_pure _ _) (OwnFrom.and ((boxed_own _ _ _).from _) (OwnFrom.and (ownFrom_below (Nat.le_refl _) (by omega)) (ownFrom_pure _ _))))
      ⟨bx0, hb0, rfl⟩
      (fun x a' V => ∃ Bx By, w.heap.size < Bx ∧ w.heap.size < By ∧ Two V Bx (.string x.1) (.int .i64 x.2.1) ∧ Two V By (.string x.1) (.int .i64 x.2.2) ∧ a' = { tmps := #[.slice xA n xc, .slice yA m yc, undef, undef, .pointer (some ⟨w.heap.size, 0, none⟩), .pointer (some ⟨Bx, 0, none⟩), .pointer (some ⟨By, 0, none⟩), .slice xA n xc, .slice yA m yc, .slice (some ⟨w.heap.size + 1, 0, none⟩) 2 2, .bool true, .bool false, .slice xA n xc, .slice yA m yc, .func (.func 106) #[] #[.pointer (some ⟨w2.heap.size, 0, none⟩), .pointer (some ⟨w2.heap.size + 1, 0, none⟩)], .agg #[.string x.1, .int .i64 x.2.1], .agg #[.string x.1, .int .i64 x.2.2], undef, undef, undef, undef, undef], defers := [] })
      (fun x a' _ V V' row hs hg hr => by
        obtain ⟨Bx, By, h1, h2, h3, h4, e⟩ := hs
        exact ⟨Bx, By, h1, h2, two_own h3 hg (fun r e => (hr r e).2), two_own h4 hg (fun r e => (hr r e).2), e⟩) ?assign ?body ?done ?stop
    case assign =>
      rintro l' q x V K hsv ⟨h1, h2, h3⟩ hK
      unfold encT
      gi_wp2
      have := h1.lt
      exact hK _ _ (((Kept.refl _ V).alloc _).alloc _) ⟨(h1.alloc _).alloc _, (h2.alloc h2.size _).alloc (by simp; have := h2.size; omega) _, h3⟩ ⟨V.heap.size, V.heap.size + 1, this, by omega, (Two.new V _ _).below ((Below.refl (V.heap.size + 1) _).alloc (by simp) _) (by omega), by have := Two.new (V.alloc (.cells #[.string x.1, .int .i64 x.2.1] 23)) (.string x.1) (.int .i64 x.2.2); rwa [World.size_alloc] at this, rfl⟩
    case body =>
      rintro l' q x a' V hsv ⟨h1, h2, h3⟩ ⟨Bx, By, hBx, hBy, b1, b2, rfl⟩ hq
      have c0 := b1.c1
      have c1 := b2.c1
      have d0 := h1.cell
      have d1 := h1.frozen
      have hsn := leqM_snoc q x
      rw [h3] at hsn
      obtain ⟨xs, x1, x2⟩ := x
      simp only at c0 c1 hsn
      clear hseq b1 b2
      by_cases hle : x1 ≤ x2
      · have HS : Hid (leqM (q ++ [(xs, x1, x2)]) = true) := by show _ = _; rw [hsn]; simp [hle]
        have hgt : ¬ x2 < x1 := by omega
        clear hsn
        gi_wp2
        exact ⟨Kept.refl _ _, trivial, h1, h2, HS.out⟩
      · have HS : Hid (leqM (q ++ [(xs, x1, x2)]) = false) := by show _ = _; rw [hsn]; simp [hle]
        have hgt : x2 < x1 := by omega
        clear hsn
        gi_wp2
        exact ⟨Kept.setCell (X := fun k => k = w.heap.size) (Kept.refl _ V) (p := ⟨w.heap.size, 0, none⟩) rfl _, rfl, h1.set _, h2.setCell (p := ⟨w.heap.size, 0, none⟩) (Nat.le_refl _) _, HS.out⟩
    case done =>
      rintro D xs V hD hxs ⟨h1, h2, h3⟩ hdf
      rw [hxs] at h3
      have hV : Hid (leqV xl yl = true) := by show _ = _; rw [← HM.out]; exact h3
      have h1' := h1.set (.bool true)
      have hb' := h2.setCell (p := ⟨w.heap.size, 0, none⟩) (Nat.le_refl _) (.bool true)
      have hdf2 : (V.setCell ⟨w.heap.size, 0, none⟩ (.bool true)).heap[D]? = some (.deferred (some [])) := (Below.heap_setCell V ⟨w.heap.size, 0, none⟩ _ D (by show D ≠ w.heap.size; have := hb0.size; omega)).trans hdf
      have c0 := h1.cell
      have c1 := h1.frozen
      have HB : Hid (∀ o', Below w.heap.size w ((V.setCell ⟨w.heap.size, 0, none⟩ (.bool true)).putObj D o')) := fun o' => hb'.trans (belowK_b (w := w) (Nat.le_refl _) _ D _ _ (by have := hb0.size; omega) hdf2 rfl rfl)
      have HC : ∀ o', ((V.setCell ⟨w.heap.size, 0, none⟩ (.bool true)).putObj D o').cell? ⟨w.heap.size, 0, none⟩ = some (.bool true) := fun o' => (World.cell?_of_block (World.putObj_heap_other (by show w.heap.size ≠ D; have := hb0.size; omega))).trans h1'.cell
      clear hseq hb' h1 h1' h2 h3 hxs
      gi_wp2
      refine ⟨by simp, .inl ⟨_, _, rfl, run_takeDeferred hdf2, ?_⟩⟩
      refine ⟨.bool true, ?_, ?_, HB.out _⟩
      · have HC2 := HC (.deferred none)
        rw [results_cell rfl]; go_simp
      · rw [hV.out]; rfl
    case stop =>
      rintro D cd q V hD hq ⟨rfl, h1, h2, h3⟩ hdf
      have hV : Hid (leqV xl yl = false) := by show _ = _; rw [← HM.out]; exact leqM_pre hq h3
      have HB : Hid (∀ o', Below w.heap.size w (V.putObj D o')) := fun o' => h2.trans (belowK_b (w := w) (Nat.le_refl _) _ D _ _ (by have := hb0.size; omega) hdf rfl rfl)
      have HC : ∀ o', (V.putObj D o').cell? ⟨w.heap.size, 0, none⟩ = some (.bool false) := fun o' => (World.cell?_of_block (World.putObj_heap_other (by show w.heap.size ≠ D; have := hb0.size; omega))).trans h1.cell
      clear hseq h1 h2 h3 hq
      gi_wp2
      refine ⟨by simp, .inl ⟨_, _, rfl, run_takeDeferred hdf, ?_⟩⟩
      refine ⟨.bool false, ?_, ?_, HB.out _⟩
      · have HC2 := HC (.deferred none)
        rw [results_cell rfl]; go_simp
      · rw [hV.out]; rfl
end Go.Proofs.Ytdffifkleaekhaa.V
