/-
  The program's Join.
-/
import Derived.Test.YtdffifkleaekhaaVLeq
namespace Go.Proofs.Ytdffifkleaekhaa.V
open Go.RowKit Go.Shelf
set_option linter.unusedVariables false
set_option linter.unusedSimpArgs false
attribute [local go_sem] Oper.semAt_some

/-- A vector that is answered, and an error. -/
def VecR (e : Ending) (w : World) (r : List D × Int) : Prop := ∃ A c, e = .returned (.tuple #[.slice A r.1.length c, .int .i64 r.2]) ∧ Vc.ok ⟨A, c, r.1⟩ w w.heap.size
/-- The same, and where it lies: in new memory. -/
def VecB (B : Nat) (e : Ending) (w : World) (r : List D × Int) : Prop := ∃ A c, e = .returned (.tuple #[.slice A r.1.length c, .int .i64 r.2]) ∧ Vc.ok ⟨A, c, r.1⟩ w w.heap.size ∧ ∀ k, blk A = some k → B ≤ k
theorem VecB.r {B : Nat} {e : Ending} {w : World} {r : List D × Int} (h : VecB B e w r) : VecR e w r := by obtain ⟨A, c, h1, h2, _⟩ := h; exact ⟨A, c, h1, h2⟩
theorem blk_none (B : Nat) : ∀ k, blk none = some k → B ≤ k := fun k h => by simp [blk] at h
theorem nil_ok (w : World) (B : Nat) : Vc.ok ⟨none, 0, []⟩ w B := ⟨RowD.none_ _ _ _, by simp, by show 0 ≤ _; omega, by simp⟩
theorem GrD.ok {w : World} {base c : Nat} {A : Option Addr} {l : List D} (h : GrD w base A c l) (hl : l.length ≤ 10000000000000) : Vc.ok ⟨A, c, l⟩ w w.heap.size :=
  ⟨h.row, h.cap.1, by have := h.cap.2; unfold maxLen at this; exact this, hl⟩
def joinO (a b : List D) : List D × Int := if (rightB a && rightB b) = true then (if (joinV ordA a b).length ≤ 64 then (joinV ordA a b, 0) else ([], 70)) else ([], 2)
theorem mrg_pos {a b : List D} (ra : rightB a = true) (rb : rightB b = true) {pre : List T} {z : T} (h : pre ++ [z] <+: mrg (a.length + b.length) a b) : 0 < max z.2.1 z.2.2 := by
  have hz : z ∈ mrg (a.length + b.length) a b := h.subset (by simp)
  obtain ⟨x, n, m⟩ := z
  obtain ⟨_, _, h⟩ := (mrg_iff _ a b (right_srt ra) (right_srt rb) (Nat.le_refl _) (right_pos ra) (right_pos rb) x n m).1 hz
  simp only
  omega

set_option maxRecDepth 100000 in
set_option maxHeartbeats 1000000 in
theorem join_fresh {x y : Vc} {w : World} (hx : x.ok w w.heap.size) (hy : y.ok w w.heap.size) : Calls Try.prog 100 #[x.v, y.v] w fun e w' => VecB w.heap.size e w' (joinO x.l y.l) ∧ Below w.heap.size w w' := by
  have hxy := Lib.hid (And.intro hx hy)
  have hrow := rowL_two hx hy
  have hcall := (callsIn_wide (n := 2)).2 (allRight_any 2 hrow (by simp))
  rw [allR_two] at hcall
  have HJ : Hid (joinO x.l y.l = if (rightB x.l && rightB y.l) = true then (if (joinV ordA x.l y.l).length ≤ 64 then (joinV ordA x.l y.l, 0) else ([], 70)) else ([], 2)) := rfl
  obtain ⟨O, hO⟩ : ∃ O, joinO x.l y.l = O := ⟨_, rfl⟩
  rw [hO] at HJ ⊢
  obtain ⟨R, hR⟩ : ∃ R, (rightB x.l && rightB y.l) = R := ⟨_, rfl⟩
  rw [hR] at hcall
  clear hrow hx hy hO
  obtain ⟨xA, xc, xl⟩ := x
  obtain ⟨yA, yc, yl⟩ := y
  simp only [Vc.v, World.size_alloc, List.length_cons, List.length_nil, Nat.reduceAdd] at *
  obtain ⟨n, hn⟩ : ∃ n, xl.length = n := ⟨_, rfl⟩
  obtain ⟨m, hm⟩ : ∃ m, yl.length = m := ⟨_, rfl⟩
  rw [hn, hm] at hcall ⊢
  have HN := Lib.hid (And.intro hn hm)
  clear hn hm
  refine (callsIn_wide (n := 3)).1 ?_
  refine callsIn_of_wp_marks Try.func100 rfl trivial ?_ rfl
  simp only [Try.ntmps100, List.size_toArray, List.length_cons, List.length_nil, Nat.reduceAdd, Nat.reduceSub, Array.replicate_succ, Array.replicate_zero, List.push_toArray, List.append_toArray, List.nil_append, List.cons_append]
  gi_wp2_with fail
  refine ⟨trivial, ?_⟩
  refine hcall.mono ?_
  rintro e w2 ⟨rfl, hb2⟩
  clear hcall
  have hb3 : Below w.heap.size w w2 := ((Below.refl _ w).alloc (Nat.le_refl _) (.cells #[.slice xA n xc, .slice yA m yc] 24)).trans (hb2.mono (by omega))
  have hs2 : w.heap.size + 1 ≤ w2.heap.size := by have := hb2.size; simp only [World.size_alloc] at this; omega
  clear hb2
  cases R with
  | false =>
    have HB3 := Lib.hid hb3
    have hr2 : Hid (O = ([], 2)) := by have := HJ.out; rw [hR] at this; exact this
    clear hb3 hs2 HJ
    gi_wp2
    exact ⟨_, results_tmp2 rfl _ _ _, ⟨none, 0, by rw [hr2.out]; rfl, by rw [hr2.out]; exact nil_ok _ _, blk_none _⟩, HB3.out⟩
  | true =>
    obtain ⟨rx, ry⟩ := Bool.and_eq_true_iff.1 hR
    have HM := Lib.hid (join_mrg (right_srt rx) (right_srt ry) (right_pos rx) (right_pos ry) (xl.length + yl.length) (Nat.le_refl _))
    have HR := Lib.hid (And.intro rx ry)
    have hr2 : Hid (O = if (joinV ordA xl yl).length ≤ 64 then (joinV ordA xl yl, 0) else ([], 70)) := by have := HJ.out; rw [hR] at this; exact this
    clear rx ry HJ
    gi_wp2_with fail
    refine ⟨trivial, ?_⟩
    gi_at_call 99
    refine (together_in _ xA yA n xc m yc _).mono ?_
    rintro e w' ⟨rfl, rfl⟩
    obtain ⟨W0, hW0⟩ : ∃ W0, ((w2.alloc (.cells #[.slice none 0 0] 24)).alloc (.cells #[.slice xA n xc] 24)).alloc (.cells #[.slice yA m yc] 24) = W0 := ⟨_, rfl⟩
    have hs0 : W0.heap.size = w2.heap.size + 3 := by rw [← hW0]; simp
    have hb0 : Below w.heap.size w W0 := by rw [← hW0]; exact ((hb3.alloc (by omega) _).alloc (by simp; omega) _).alloc (by simp; omega) _
    have a0 : W0.cell? ⟨w2.heap.size + 1, 0, none⟩ = some (.slice xA n xc) := by rw [← hW0]; simp [go_sem]
    have a1 : W0.cell? ⟨w2.heap.size + 2, 0, none⟩ = some (.slice yA m yc) := by rw [← hW0]; simp [go_sem]
    have bx0 : OutD (w2.heap.size + 5) w2.heap.size [] W0 := by
      rw [← hW0]
      exact ⟨none, 0, ((Boxed.new w2 _ _).alloc _).alloc _, GrD.nil _ _⟩
    rw [← HN.out.1] at a0
    rw [← HN.out.2] at a1
    have hseq := tog_seq ⟨xA, xc, xl⟩ ⟨yA, yc, yl⟩ (w2.heap.size + 1) (w2.heap.size + 2) w.heap.size (xl.length + yl.length) (fun k => k = w2.heap.size ∨ w2.heap.size + 5 ≤ k) (fun _ => True) W0 (hxy.out.1.below hb0) (hxy.out.2.below hb0) (Nat.le_refl _) (by omega) (fun k hk h => by omega) (by omega) (by omega) a0 a1
    have hlim : n ≤ 10000000000000 ∧ m ≤ 10000000000000 := ⟨by rw [← HN.out.1]; exact hxy.out.1.2.2.2, by rw [← HN.out.2]; exact hxy.out.2.2.2.2⟩
    have HLim : Hid (xl.length + yl.length ≤ 10000000) := by
      have h1 := right_len HR.out.1
      have h2 := right_len HR.out.2
      show _ ≤ _; omega
    try simp only [Nat.add_assoc, Nat.reduceAdd]
    rw [hW0]
    clear a0 a1 hW0 hb3 hxy hlim
    gi_wp2
    refine range_own (gf := 106) (lb := #[.pointer (some ⟨w2.heap.size + 1, 0, none⟩), .pointer (some ⟨w2.heap.size + 2, 0, none⟩)]) rfl (enters_of Try.func106 (by kernel_rfl) rfl) hseq (by show ¬ (W0.heap.size = w2.heap.size ∨ w2.heap.size + 5 ≤ W0.heap.size); omega) (by show ¬ (W0.heap.size + 1 = w2.heap.size ∨ w2.heap.size + 5 ≤ W0.heap.size + 1); omega) (Below.refl _ _) (fun _ => rfl)
      (fun q V => OutD (w2.heap.size + 5) w2.heap.size (outF max q) V ∧ Below w.heap.size w V)
      (fun cd q V => False)
      (OwnFrom.and ((outD_own _ _ _).from _) (ownFrom_below (Nat.le_refl _) (by omega)))
      (fun cd => ownFrom_pure _ _)
      ⟨bx0, hb0⟩
      (fun x a' V => ∃ Bx By, w2.heap.size < Bx ∧ w2.heap.size < By ∧ w2.heap.size + 5 ≤ V.heap.size ∧ Two V Bx (.string x.1) (.int .i64 x.2.1) ∧ Two V By (.string x.1) (.int .i64 x.2.2) ∧ a' = { tmps := #[.slice xA n xc, .slice yA m yc, undef, undef, .slice none 0 0, .int .i64 0, .pointer (some ⟨w2.heap.size, 0, none⟩), .pointer (some ⟨Bx, 0, none⟩), .pointer (some ⟨By, 0, none⟩), .slice xA n xc, .slice yA m yc, .slice (some ⟨w.heap.size, 0, none⟩) 2 2, .bool true, .bool false, .slice xA n xc, .slice yA m yc, .func (.func 106) #[] #[.pointer (some ⟨w2.heap.size + 1, 0, none⟩), .pointer (some ⟨w2.heap.size + 2, 0, none⟩)], .agg #[.string x.1, .int .i64 x.2.1], .agg #[.string x.1, .int .i64 x.2.2], undef, undef, undef, undef, undef, undef, undef, undef, undef, undef, undef, undef, undef, undef, undef], defers := [] })
      (fun x a' _ V V' row hs hg hr => by
        obtain ⟨Bx, By, h1, h2, h5, h3, h4, e⟩ := hs
        exact ⟨Bx, By, h1, h2, by have := hg.size; omega, two_own h3 hg (fun r e => (hr r e).2), two_own h4 hg (fun r e => (hr r e).2), e⟩) ?assign ?body ?done ?stop
    case assign =>
      rintro l' q x V K hsv ⟨h1, h2⟩ hK
      unfold encT
      gi_wp2
      have : w2.heap.size < V.heap.size := by omega
      have hal : ∀ o, OutD (w2.heap.size + 5) w2.heap.size (outF max q) (V.alloc o) := fun o => outD_own _ _ (fun _ : Unit => outF max q) () V _ none h1 (World.grownBy_alloc V o none) (fun r e => by cases e)
      have hal2 : ∀ o o2, OutD (w2.heap.size + 5) w2.heap.size (outF max q) ((V.alloc o).alloc o2) := fun o o2 => outD_own _ _ (fun _ : Unit => outF max q) () _ _ none (hal o) (World.grownBy_alloc _ o2 none) (fun r e => by cases e)
      exact hK _ _ (((Kept.refl _ V).alloc _).alloc _) ⟨hal2 _ _, (h2.alloc h2.size _).alloc (by simp; have := h2.size; omega) _⟩ ⟨V.heap.size, V.heap.size + 1, this, by omega, by simp; omega, (Two.new V _ _).below ((Below.refl (V.heap.size + 1) _).alloc (by simp) _) (by omega), by have := Two.new (V.alloc (.cells #[.string x.1, .int .i64 x.2.1] 23)) (.string x.1) (.int .i64 x.2.2); rwa [World.size_alloc] at this, rfl⟩
    case body =>
      rintro l' q x a' V hsv ⟨⟨oA, oc, ob, og⟩, h2⟩ ⟨Bx, By, hBx, hBy, hVs, b1, b2, rfl⟩ hq
      have e0 := b1.c0
      have e1 := b1.c1
      have e2 := b2.c1
      have d0 := ob.cell
      have hmx := mrg_pos HR.out.1 HR.out.2 hq
      have hsn := outF_snoc max q x
      rw [if_pos hmx] at hsn
      have hle : (outF max q).length ≤ 10000000 := by have := outF_len max q; have := pre_len hq; have := HLim.out; omega
      obtain ⟨A', c', w1, hrun, p1, p2, p3, p4, p5⟩ := push ob og hVs (by omega) (x.1, max x.2.1 x.2.2) hle
      rw [← hsn] at p3
      obtain ⟨xs, x1, x2⟩ := x
      have hmxv : max x1 x2 = if x1 < x2 then x2 else x1 := by omega
      simp only at e0 e1 e2 hrun hmxv
      rw [hmxv] at hrun
      obtain ⟨mx, hmx2⟩ : ∃ mx, (if x1 < x2 then x2 else x1) = mx := ⟨_, rfl⟩
      rw [hmx2] at hrun
      obtain ⟨ol, hol⟩ : ∃ ol, (outF max q).length = ol := ⟨_, rfl⟩
      rw [hol] at hrun d0 p1 p3 p4 p5
      have HG := Lib.hid (And.intro p3 (And.intro p4 (h2.trans (p5.mono (by omega)))))
      have HRUN := Lib.hid hrun
      clear hseq b1 b2 hmxv hmx hsn p3 p4 p5 ob og h2 hle hol hrun
      gi_wp2_with (gi_at_builtin; refine wpListIn_append_run rfl _ _ _ _ rfl _ _ rfl rfl HRUN.out ?_; clear HRUN)
      exact ⟨HG.out.2.1, trivial, HG.out.1, HG.out.2.2⟩
    case done =>
      rintro D xs V hD hxs ⟨⟨oA, oc, ob, og⟩, h2⟩ hdf
      rw [hxs, HM.out] at ob og
      have HB : Hid (∀ o', Below w.heap.size w (V.putObj D o')) := fun o' => h2.trans (belowK_b (w := w) (Nat.le_refl _) _ D _ _ (by have := hb0.size; omega) hdf rfl rfl)
      have c0 := ob.cell
      have HG : Hid (∀ o', GrD (V.putObj D o') (w2.heap.size + 5) oA oc (joinV ordA xl yl)) := fun o' => og.kept (grownBy_putObj' V D o') fun k hk e => by
        injection e with e
        subst e
        rcases og.cases with ⟨rfl, _, _⟩ | ⟨g, cur, rfl, _, hO, _⟩
        · simp [blk] at hk
        · obtain rfl : g = k := by simpa [blk] using hk
          rw [hO] at hdf; cases hdf
      obtain ⟨J, hJ⟩ : ∃ J, joinV ordA xl yl = J := ⟨_, rfl⟩
      rw [hJ] at hr2 c0 HG
      obtain ⟨jl, hjl⟩ : ∃ jl, J.length = jl := ⟨_, rfl⟩
      rw [hjl] at hr2 c0
      have HJL := Lib.hid hjl
      clear hseq ob og h2 hxs hJ hjl
      by_cases h64 : jl ≤ 64
      · have hr3 : Hid (O = (J, 0)) := hr2.out.trans (if_pos h64)
        have hng : ¬ (64 : Int) < (jl : Int) := by omega
        gi_wp2
        refine ⟨by simp, .inl ⟨_, _, rfl, run_takeDeferred hdf, ?_⟩⟩
        refine ⟨_, results_tmp2 rfl _ _ _, ⟨oA, oc, ?_, ?_, fun k hk => by have := ((HG.out (.deferred none)).lt k hk).1; omega⟩, HB.out _⟩
        · rw [hr3.out, HJL.out]; rfl
        · rw [hr3.out]; exact (HG.out _).ok (by rw [HJL.out]; omega)
      · have hr3 : Hid (O = ([], 70)) := hr2.out.trans (if_neg h64)
        have hng : (64 : Int) < (jl : Int) := by omega
        gi_wp2
        refine ⟨by simp, .inl ⟨_, _, rfl, run_takeDeferred hdf, ?_⟩⟩
        refine ⟨_, results_tmp2 rfl _ _ _, ⟨none, 0, ?_, ?_, blk_none _⟩, HB.out _⟩
        · rw [hr3.out]; rfl
        · rw [hr3.out]; exact nil_ok _ _
    case stop =>
      rintro D cd q V hD hq h hdf
      exact h.elim
theorem join_any {x y : Vc} {w : World} (hx : x.ok w w.heap.size) (hy : y.ok w w.heap.size) : Calls Try.prog 100 #[x.v, y.v] w fun e w' => VecR e w' (joinO x.l y.l) ∧ Below w.heap.size w w' :=
  (join_fresh hx hy).mono fun e w' h => ⟨h.1.r, h.2⟩
end Go.Proofs.Ytdffifkleaekhaa.V
