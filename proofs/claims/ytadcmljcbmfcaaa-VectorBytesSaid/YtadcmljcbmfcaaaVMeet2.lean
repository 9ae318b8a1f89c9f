/-
  The program's meet of two.
-/
import Derived.Test.YtadcmljcbmfcaaaVJoin
namespace Go.Proofs.Ytadcmljcbmfcaaa.V
open Go.RowKit Go.Shelf
set_option linter.unusedVariables false
set_option linter.unusedSimpArgs false
attribute [local go_sem] Oper.semAt_some

def meetL (a b : List D) : List D := outF min (mrg (a.length + b.length) a b)

set_option maxRecDepth 100000 in
set_option maxHeartbeats 1000000 in
theorem meet2_any {x y : Vc} {w : World} (hx : x.ok w w.heap.size) (hy : y.ok w w.heap.size) (hl : x.l.length + y.l.length ≤ 10000000) : Calls Try.prog 43 #[x.v, y.v] w fun e w' => (∃ A c, e = .returned (.slice A (meetL x.l y.l).length c) ∧ Vc.ok ⟨A, c, meetL x.l y.l⟩ w' w'.heap.size) ∧ Below w.heap.size w w' := by
  have hxy := Lib.hid (And.intro hx hy)
  obtain ⟨O, hO⟩ : ∃ O, meetL x.l y.l = O := ⟨_, rfl⟩
  have HM : Hid (outF min (mrg (x.l.length + y.l.length) x.l y.l) = O) := hO
  rw [hO]
  clear hx hy hO
  obtain ⟨xA, xc, xl⟩ := x
  obtain ⟨yA, yc, yl⟩ := y
  simp only [Vc.v] at *
  have HLim := Lib.hid hl
  obtain ⟨n, hn⟩ : ∃ n, xl.length = n := ⟨_, rfl⟩
  obtain ⟨m, hm⟩ : ∃ m, yl.length = m := ⟨_, rfl⟩
  rw [hn, hm]
  have HN := Lib.hid (And.intro hn hm)
  clear hn hm hl
  refine (callsIn_wide (n := 3)).1 ?_
  refine callsIn_of_wp_marks Try.func43 rfl trivial ?_ rfl
  simp only [Try.ntmps43, List.size_toArray, List.length_cons, List.length_nil, Nat.reduceAdd, Nat.reduceSub, Array.replicate_succ, Array.replicate_zero, List.push_toArray, List.append_toArray, List.nil_append, List.cons_append]
  gi_wp2_with fail
  refine ⟨trivial, ?_⟩
  gi_at_call 42
  refine (together_in _ xA yA n xc m yc _).mono ?_
  rintro e w' ⟨rfl, rfl⟩
  obtain ⟨W0, hW0⟩ : ∃ W0, ((w.alloc (.cells #[.slice none 0 0] 22)).alloc (.cells #[.slice xA n xc] 22)).alloc (.cells #[.slice yA m yc] 22) = W0 := ⟨_, rfl⟩
  have hs0 : W0.heap.size = w.heap.size + 3 := by rw [← hW0]; simp
  have hb0 : Below w.heap.size w W0 := by rw [← hW0]; exact (((Below.refl _ w).alloc (Nat.le_refl _) _).alloc (by simp <;> omega) _).alloc (by simp <;> omega) _
  have a0 : W0.cell? ⟨w.heap.size + 1, 0, none⟩ = some (.slice xA n xc) := by rw [← hW0]; simp [go_sem]
  have a1 : W0.cell? ⟨w.heap.size + 2, 0, none⟩ = some (.slice yA m yc) := by rw [← hW0]; simp [go_sem]
  have bx0 : OutD (w.heap.size + 5) w.heap.size [] W0 := by
    rw [← hW0]
    exact ⟨none, 0, ((Boxed.new w _ _).alloc _).alloc _, GrD.nil _ _⟩
  rw [← HN.out.1] at a0
  rw [← HN.out.2] at a1
  have hseq := tog_seq ⟨xA, xc, xl⟩ ⟨yA, yc, yl⟩ (w.heap.size + 1) (w.heap.size + 2) w.heap.size (xl.length + yl.length) (fun k => k = w.heap.size ∨ w.heap.size + 5 ≤ k) (fun _ => True) W0 (hxy.out.1.below hb0) (hxy.out.2.below hb0) (Nat.le_refl _) (by omega) (fun k hk h => by omega) (by omega) (by omega) a0 a1
  have hlim : n ≤ 10000000000000 ∧ m ≤ 10000000000000 := ⟨by rw [← HN.out.1]; exact hxy.out.1.2.2.2, by rw [← HN.out.2]; exact hxy.out.2.2.2.2⟩
  try simp only [Nat.add_assoc, Nat.reduceAdd]
  rw [hW0]
  clear a0 a1 hW0 hxy hlim
  gi_wp2
  refine range_own (gf := 53) (lb := #[.pointer (some ⟨w.heap.size + 1, 0, none⟩), .pointer (some ⟨w.heap.size + 2, 0, none⟩)]) rfl (enters_of Try.func53 (by kernel_rfl) rfl) hseq (by show ¬ (W0.heap.size = w.heap.size ∨ w.heap.size + 5 ≤ W0.heap.size); omega) (by show ¬ (W0.heap.size + 1 = w.heap.size ∨ w.heap.size + 5 ≤ W0.heap.size + 1); omega) (Below.refl _ _) (fun _ => rfl)
    (fun q V => OutD (w.heap.size + 5) w.heap.size (outF min q) V ∧ Below w.heap.size w V)
    (fun cd q V => False)
    (OwnFrom.and ((outD_own _ _ _).from _) (ownFrom_below (Nat.le_refl _) (by omega)))
    (fun cd => ownFrom_pure _ _)
    ⟨bx0, hb0⟩
    (fun x a' V => ∃ Bx By, w.heap.size < Bx ∧ w.heap.size < By ∧ w.heap.size + 5 ≤ V.heap.size ∧ Two V Bx (.string x.1) (.int .i64 x.2.1) ∧ Two V By (.string x.1) (.int .i64 x.2.2) ∧ a' = { tmps := #[.slice xA n xc, .slice yA m yc, undef, undef, .slice none 0 0, .pointer (some ⟨w.heap.size, 0, none⟩), .pointer (some ⟨Bx, 0, none⟩), .pointer (some ⟨By, 0, none⟩), undef, .slice xA n xc, .slice yA m yc, .func (.func 53) #[] #[.pointer (some ⟨w.heap.size + 1, 0, none⟩), .pointer (some ⟨w.heap.size + 2, 0, none⟩)], .agg #[.string x.1, .int .i64 x.2.1], .agg #[.string x.1, .int .i64 x.2.2], undef, undef, undef, undef, undef, undef, undef, undef, undef, undef, undef, undef, undef, undef, undef], defers := [] })
    (fun x a' _ V V' row hs hg hr => by
      obtain ⟨Bx, By, h1, h2, h5, h3, h4, e⟩ := hs
      exact ⟨Bx, By, h1, h2, by have := hg.size; omega, two_own h3 hg (fun r e => (hr r e).2), two_own h4 hg (fun r e => (hr r e).2), e⟩) ?assign ?body ?done ?stop
  case assign =>
    rintro l' q x V K hsv ⟨h1, h2⟩ hK
    unfold encT
    gi_wp2
    have : w.heap.size < V.heap.size := by omega
    have hal : ∀ o, OutD (w.heap.size + 5) w.heap.size (outF min q) (V.alloc o) := fun o => outD_own _ _ (fun _ : Unit => outF min q) () V _ none h1 (World.grownBy_alloc V o none) (fun r e => by cases e)
    have hal2 : ∀ o o2, OutD (w.heap.size + 5) w.heap.size (outF min q) ((V.alloc o).alloc o2) := fun o o2 => outD_own _ _ (fun _ : Unit => outF min q) () _ _ none (hal o) (World.grownBy_alloc _ o2 none) (fun r e => by cases e)
    exact hK _ _ (((Kept.refl _ V).alloc _).alloc _) ⟨hal2 _ _, (h2.alloc h2.size _).alloc (by simp; have := h2.size; omega) _⟩ ⟨V.heap.size, V.heap.size + 1, this, by omega, by simp; omega, (Two.new V _ _).below ((Below.refl (V.heap.size + 1) _).alloc (by simp) _) (by omega), by have := Two.new (V.alloc (.cells #[.string x.1, .int .i64 x.2.1] 24)) (.string x.1) (.int .i64 x.2.2); rwa [World.size_alloc] at this, rfl⟩
  case body =>
    rintro l' q x a' V hsv ⟨⟨oA, oc, ob, og⟩, h2⟩ ⟨Bx, By, hBx, hBy, hVs, b1, b2, rfl⟩ hq
    have e0 := b1.c0
    have e1 := b1.c1
    have e2 := b2.c1
    have d0 := ob.cell
    have hsn := outF_snoc min q x
    have hle : (outF min q).length ≤ 10000000 := by have := outF_len min q; have := pre_len hq; have := HLim.out; omega
    by_cases hmx : 0 < min x.2.1 x.2.2
    · rw [if_pos hmx] at hsn
      obtain ⟨A', c', w1, hrun, p1, p2, p3, p4, p5⟩ := push ob og hVs (by omega) (x.1, min x.2.1 x.2.2) hle
      rw [← hsn] at p3
      obtain ⟨xs, x1, x2⟩ := x
      have hmxv : min x1 x2 = if x2 < x1 then x2 else x1 := by omega
      simp only at e0 e1 e2 hrun hmxv hmx
      rw [hmxv] at hrun hmx
      obtain ⟨mx, hmx2⟩ : ∃ mx, (if x2 < x1 then x2 else x1) = mx := ⟨_, rfl⟩
      rw [hmx2] at hrun hmx
      obtain ⟨ol, hol⟩ : ∃ ol, (outF min q).length = ol := ⟨_, rfl⟩
      rw [hol] at hrun d0 p1 p3 p4 p5
      have HG := Lib.hid (And.intro p3 (And.intro p4 (h2.trans (p5.mono (by omega)))))
      have HRUN := Lib.hid hrun
      clear hseq b1 b2 hmxv hsn p3 p4 p5 ob og h2 hle hol hrun
      gi_wp2_with (gi_at_builtin; refine wpListIn_append_run rfl _ _ _ _ rfl _ _ rfl rfl HRUN.out ?_; clear HRUN)
      exact ⟨HG.out.2.1, trivial, HG.out.1, HG.out.2.2⟩
    · rw [if_neg hmx] at hsn
      have hOut : OutD (w.heap.size + 5) w.heap.size (outF min (q ++ [x])) V := by rw [hsn]; exact ⟨oA, oc, ob, og⟩
      obtain ⟨xs, x1, x2⟩ := x
      have hmxv : min x1 x2 = if x2 < x1 then x2 else x1 := by omega
      simp only at e0 e1 e2 hmxv hmx
      rw [hmxv] at hmx
      obtain ⟨mx, hmx2⟩ : ∃ mx, (if x2 < x1 then x2 else x1) = mx := ⟨_, rfl⟩
      rw [hmx2] at hmx
      have HG := Lib.hid (And.intro hOut h2)
      clear hseq b1 b2 hmxv hsn ob og h2 hle hOut
      gi_wp2
      exact ⟨Kept.refl _ _, trivial, HG.out.1, HG.out.2⟩
  case done =>
    rintro D xs V hD hxs ⟨⟨oA, oc, ob, og⟩, h2⟩ hdf
    have hlen : (outF min xs).length ≤ 10000000000000 := by
      have h1 := outF_len min xs
      rw [hxs] at h1 ⊢
      have := mrg_len (xl.length + yl.length) xl yl
      have := HLim.out
      omega
    rw [hxs, HM.out] at ob og hlen
    have HB : Hid (∀ o', Below w.heap.size w (V.putObj D o')) := fun o' => h2.trans (belowK_b (w := w) (Nat.le_refl _) _ D _ _ (by have := hb0.size; omega) hdf rfl rfl)
    have c0 := ob.cell
    have HG : Hid (∀ o', GrD (V.putObj D o') (w.heap.size + 5) oA oc O) := fun o' => og.kept (grownBy_putObj' V D o') fun k hk e => by
      injection e with e
      subst e
      rcases og.cases with ⟨rfl, _, _⟩ | ⟨g, cur, rfl, _, hO, _⟩
      · simp [blk] at hk
      · obtain rfl : g = k := by simpa [blk] using hk
        rw [hO] at hdf; cases hdf
    obtain ⟨jl, hjl⟩ : ∃ jl, O.length = jl := ⟨_, rfl⟩
    rw [hjl] at c0
    have HJL := Lib.hid (And.intro hjl hlen)
    clear hseq ob og h2 hxs hjl hlen
    gi_wp2
    refine ⟨by simp, .inl ⟨_, _, rfl, run_takeDeferred hdf, ?_⟩⟩
    refine ⟨_, results_tmp rfl _ _ _, ⟨oA, oc, ?_, ?_⟩, HB.out _⟩
    · rw [HJL.out.1]; rfl
    · exact (HG.out _).ok HJL.out.2
  case stop =>
    rintro D cd q V hD hq h hdf
    exact h.elim
end Go.Proofs.Ytadcmljcbmfcaaa.V
