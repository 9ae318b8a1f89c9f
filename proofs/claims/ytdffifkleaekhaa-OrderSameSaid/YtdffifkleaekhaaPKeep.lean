/-
  keep.
-/
import Derived.Test.YtdffifkleaekhaaPRoom
import Derived.Test.YtdffifkleaekhaaPSteps
import Derived.Test.YtdffifkleaekhaaPSeen
import Derived.OrdersHeld
import Derived.Deep.RegionHeld
import Derived.Lib.Hide
namespace Go.Proofs.Ytdffifkleaekhaa.O
open Go.RowKit Go.Proofs.Ytdffifkleaekhaa.V
set_option linter.unusedVariables false
set_option linter.unusedSimpArgs false

/-- A slice that lies apart from X, or has nothing. -/
def Clear (X : Nat → Prop) (A : Option Addr) (n : Nat) : Prop := 0 < n → Apart X A
theorem But.row' {X : Nat → Prop} {a b : World} (h : But X a b) {A : Option Addr} {l : List D} (hr : RowD a a.heap.size A l) (hA : Clear X A l.length) : RowD b b.heap.size A l := fun hn => h.row hr (hA hn) hn
theorem But.ov' {X : Nat → Prop} {a b : World} (h : But X a b) {x : Ov} (hx : x.ok a a.heap.size) (hA : Clear X x.A x.o.deps.length) (hA2 : Clear X x.A2 x.o.seen.length) : x.ok b b.heap.size := ⟨⟨h.row' hx.d.1 hA, hx.d.2⟩, ⟨h.row' hx.s.1 hA2, hx.s.2⟩, hx.fit⟩
theorem Apart.clear {X : Nat → Prop} {A : Option Addr} (h : Apart X A) (n : Nat) : Clear X A n := fun _ => h
theorem run_equalIn_map_nil {P : Program} {w : World} (d : Nat) (t k e : TypeId) (M : Option Nat) (h : P.underlying t = some (.map k e)) : (Op.equalIn (d + 1) t (.map M) (.map none)).run P w = .ok M.isNone w := by
  cases M <;> simp [Op.equalIn, run_underlying h]
theorem run_eql_map_nil {P : Program} {w : World} (t k e : TypeId) (M : Option Nat) (h : P.underlying t = some (.map k e)) : (binOp .eql t (.map M) (.map none)).run P w = .ok (.bool M.isNone) w := by
  simp only [binOp]
  simp [Op.equal, Op.maxDepth, run_equalIn_map_nil 9999 t k e M h]
theorem map_eql (M : Option Nat) (w : World) : (binOp .eql 86 (.map M) (.map none)).run Try.prog w = .ok (.bool M.isNone) w := run_eql_map_nil 86 23 26 M Try.underlying86
/-- A copy of an operation, in new memory. -/
def OwnR (o : Op) (B : Nat) (e : Ending) (w' : World) : Prop := ∃ y : Ov, y.o = o ∧ e = .returned y.v ∧ y.ok w' w'.heap.size ∧ Lies y.A B w'.heap.size ∧ Lies y.A2 B w'.heap.size
theorem own_r (x : Ov) {w : World} (hx : x.ok w w.heap.size) (h1 : x.o.deps.length ≤ 10000000) (h2 : x.o.seen.length ≤ 10000000) :
    Calls Try.prog 72 #[x.v] w fun e w' => OwnR x.o w.heap.size e w' ∧ Below w.heap.size w w' := own_any x hx h1 h2
theorem wf64 {n : Int} (h : 1 ≤ n ∧ n ≤ 4611686018427387904) : (Lit.int .i64 n).wf = true := by
  have h1 : IntKind.min .i64 = -9223372036854775808 := by decide
  have h2 : IntKind.max .i64 = 9223372036854775807 := by decide
  simp only [Lit.wf, h1, h2, Bool.and_eq_true, decide_eq_true_eq]
  omega

set_option maxRecDepth 100000 in
set_option maxHeartbeats 3200000 in
theorem keep_any {p : Pv} {w : World} {b : Nat} (h : p.At w b) (x : Ov) (hx : x.ok w w.heap.size) (hd : dotB x.o.dot = true) (h1 : x.o.deps.length ≤ 10000000) (h2 : x.o.seen.length ≤ 10000000) (hO : p.O.length ≤ 1000000) (ha1 : Clear (p.own b) x.A x.o.deps.length) (ha2 : Clear (p.own b) x.A2 x.o.seen.length) :
    Calls Try.prog 62 #[.pointer (some ⟨b, 0, none⟩), x.v] w fun e w' => ∃ (y : Ov) (m : Nat), y.o = x.o ∧ e = .returned (.tuple #[]) ∧ Step p w { p with M := some m, O := y :: p.O } w' b := by
  have HH := Lib.hid (And.intro hd (And.intro h1 (And.intro h2 hO)))
  have hmm := @run_makeMap Try.prog
  have hme := map_eql
  have HOK := Lib.hid hx
  have HAP := Lib.hid (And.intro ha1 ha2)
  clear ha1 ha2
  clear hd h1 h2 hO
  obtain ⟨X0, hX0⟩ : ∃ X0, X0 = x := ⟨_, rfl⟩
  have HX0 := Lib.hid hX0
  clear hX0
  have hX1 : Hid (X0 = x) := HX0.out
  have hb1 : Below w.heap.size w (w.alloc (.cells x.cells 26)) := (Below.refl _ w).alloc (Nat.le_refl _) _
  have hop : ∀ W, Below (w.alloc (.cells x.cells 26)).heap.size (w.alloc (.cells x.cells 26)) W → Op8.Cells W w.heap.size x := fun W hW => ((Op8.new w x).below hW (by simp)).at
  have hdd : ∀ W, Below (w.alloc (.cells x.cells 26)).heap.size (w.alloc (.cells x.cells 26)) W → x.ok W W.heap.size := fun W hW => (hx.up hb1).up hW
  obtain ⟨⟨⟨s, n⟩, dp, ct, kd, it, q, sn⟩, A, c, A2, c2⟩ := x
  have HF := Lib.hid hx.fit
  clear hx
  simp only [Ov.v, Ov.cells] at hop hb1 hdd ⊢
  obtain ⟨a1, ha1⟩ : ∃ L, dp.length = L := ⟨_, rfl⟩
  obtain ⟨a2, ha2⟩ : ∃ L, sn.length = L := ⟨_, rfl⟩
  have HL := Lib.hid (And.intro ha1 ha2)
  rw [ha1, ha2] at hop hb1 hdd ⊢
  obtain ⟨W1, hW1⟩ : ∃ W1, w.alloc (.cells #[.string s, .int .i64 n, .slice A a1 c, .string ct, .int .i64 kd, .string it, .int .i64 q, .slice A2 a2 c2] 26) = W1 := ⟨_, rfl⟩
  have HWE := Lib.hid hW1
  rw [hW1] at hop hb1 hdd
  have HC : Hid (∀ W, Below W1.heap.size W1 W → (W.cell? ⟨w.heap.size, 0, none⟩ = some (.string s) ∧ W.cell? ⟨w.heap.size, 1, none⟩ = some (.int .i64 n) ∧ W.cell? ⟨w.heap.size, 2, none⟩ = some (.slice A a1 c)) ∧ W.cell? ⟨w.heap.size, 3, none⟩ = some (.string ct) ∧ W.cell? ⟨w.heap.size, 4, none⟩ = some (.int .i64 kd) ∧ W.cell? ⟨w.heap.size, 5, none⟩ = some (.string it) ∧ W.cell? ⟨w.heap.size, 6, none⟩ = some (.int .i64 q) ∧ W.cell? ⟨w.heap.size, 7, none⟩ = some (.slice A2 a2 c2)) := fun W hW => by
    obtain ⟨c0, c1, c2_, c3, c4, c5, c6, c7⟩ := hop W hW
    simp only at c0 c1 c2_ c3 c4 c5 c6 c7
    rw [ha1] at c2_; rw [ha2] at c7
    exact ⟨⟨c0, c1, c2_⟩, c3, c4, c5, c6, c7⟩
  have HB1 : Hid (∀ W, Below W1.heap.size W1 W → Below w.heap.size w W) := fun W hW => hb1.trans (hW.mono hb1.size)
  have HDR : Hid (∀ W, Below W1.heap.size W1 W → Vc.ok ⟨A, c, dp⟩ W W.heap.size ∧ Vc.ok ⟨A2, c2, sn⟩ W W.heap.size) := fun W hW => ⟨(hdd W hW).d, (hdd W hW).s⟩
  have hRw : Below W1.heap.size W1 W1 := Below.refl _ _
  clear hop hb1 hdd hW1 ha1 ha2
  have hbl := h.box.lt
  have HST1 : Hid (Step p w p W1 b) := Step.of h (HB1.out _ hRw)
  have HOWN : Hid (∀ W, Below W1.heap.size W1 W → ∃ hok : Ov.ok ⟨⟨(s, n), dp, ct, kd, it, q, sn⟩, A, c, A2, c2⟩ W W.heap.size, True) := fun W hW => ⟨HOK.out.up (HB1.out W hW), trivial⟩
  have hbox := (HST1.out.at_).box.at
  have hfr := (HST1.out.at_).box.fr
  have c00 := hbox.c0
  have f00 := hfr.f0
  have HDK : Hid (s.size ≤ maxLen ∧ (Lit.int .i64 n).wf = true) := by
    have hq := dotB_iff.1 HH.out.1
    simp only at hq
    have hz := (nameB_pos hq.1).2
    exact ⟨by unfold maxLen; omega, wf64 hq.2⟩
  have HKO : Hid (∀ (p' : Pv) (W : World), Step p w p' W b → Ov.ok ⟨⟨(s, n), dp, ct, kd, it, q, sn⟩, A, c, A2, c2⟩ W W.heap.size) := fun p' W hst => hst.but.ov' HOK.out HAP.out.1 HAP.out.2
  have HRw := Lib.hid hRw
  have HBL := Lib.hid hbl
  clear hbox hfr hRw hbl hX1 HX0
  obtain ⟨M, hM⟩ : ∃ M, p.M = M := ⟨_, rfl⟩
  rw [hM] at c00
  have HM := Lib.hid hM
  clear hM
  go_enter Try.func62, Try.ntmps62
  go_upto_region 1 with fail
  rw [HWE.out]
  cases M with
  | none =>
    have hmd := (HST1.out.at_).made HM.out
    obtain ⟨m, hm⟩ : ∃ m, W1.heap.size = m := ⟨_, rfl⟩
    have HMs := Lib.hid hm
    rw [hm] at hmd
    obtain ⟨W2, hW2⟩ : ∃ W2, (W1.alloc (.map #[] 0)).setCell ⟨b, 0, none⟩ (.map (some m)) = W2 := ⟨_, rfl⟩
    rw [hW2] at hmd
    have HW2 := Lib.hid hW2
    have ST2 : Hid (Step p w { p with M := some m } W2 b) := HST1.out.trans hmd
    have HB2 : Hid (∀ W, But (fun k => k = m) W2 W → Below W1.heap.size W1 W ∨ True) := fun W _ => .inr trivial
    have hC2 : ∀ W, But (fun k => k = m) W2 W → But (fun k => k = b ∨ k = m) W1 W := fun W hW => by
      refine But.trans ?_ (hW.mono fun k _ hk => .inr hk)
      rw [← hW2]
      exact ((But.refl _ W1).alloc _).setCell (p := ⟨b, 0, none⟩) (.inl (.inl rfl)) _
    have HC2 := Lib.hid hC2
    have f01 : (W1.alloc (.map #[] 0)).frozen? ⟨b, 0, none⟩ = false := ((HST1.out.at_).up ((Below.refl _ W1).alloc (Nat.le_refl _) (.map #[] 0))).box.fr.f0
    have c01 : (W1.alloc (.map #[] 0)).cell? ⟨b, 0, none⟩ = some (.map none) := by
      have h0 := ((HST1.out.at_).up ((Below.refl _ W1).alloc (Nat.le_refl _) (.map #[] 0))).box.at.c0
      rw [HM.out] at h0; exact h0
    clear hW2 hm hmd hC2
    go_upto_region 3 with fail
    have hmx := HMs.out
    try rw [hmx]
    rw [HW2.out]
    clear hmx
    have HBW : Hid (w.heap.size < W1.heap.size ∧ w.heap.size ≠ b ∧ w.heap.size ≠ m) := by
      have h0 : W1.heap.size = w.heap.size + 1 := by rw [← HWE.out]; simp
      refine ⟨by omega, by have := HBL.out; omega, ?_⟩
      have hq := ST2.out.own m (.inr (.inl rfl))
      have := HMs.out; omega
    have HCC : Hid (∀ W, But (fun k => k = m) W2.drew W → (W.cell? ⟨w.heap.size, 0, none⟩ = some (.string s) ∧ W.cell? ⟨w.heap.size, 1, none⟩ = some (.int .i64 n) ∧ W.cell? ⟨w.heap.size, 2, none⟩ = some (.slice A a1 c)) ∧ W.cell? ⟨w.heap.size, 3, none⟩ = some (.string ct) ∧ W.cell? ⟨w.heap.size, 4, none⟩ = some (.int .i64 kd) ∧ W.cell? ⟨w.heap.size, 5, none⟩ = some (.string it) ∧ W.cell? ⟨w.heap.size, 6, none⟩ = some (.int .i64 q) ∧ W.cell? ⟨w.heap.size, 7, none⟩ = some (.slice A2 a2 c2)) := fun W hW => by
      have hb := HC2.out W ⟨hW.os, hW.tape, hW.output, hW.size, hW.block⟩
      obtain ⟨⟨k0, k1, k2_⟩, k3, k4, k5, k6, k7⟩ := HC.out _ HRw.out
      have hn : ∀ i, ¬ ((fun k => k = b ∨ k = m) (Addr.block ⟨w.heap.size, i, none⟩)) := fun i hh => by
        rcases hh with hh | hh
        · exact HBW.out.2.1 hh
        · exact HBW.out.2.2 hh
      exact ⟨⟨hb.cell (hn 0) k0, hb.cell (hn 1) k1, hb.cell (hn 2) k2_⟩, hb.cell (hn 3) k3, hb.cell (hn 4) k4, hb.cell (hn 5) k5, hb.cell (hn 6) k6, hb.cell (hn 7) k7⟩
    have HAT : Hid (Pv.At { p with M := some m } W2.drew b) := (ST2.out.at_).up ((Below.refl _ _).drew)
    have HST : Hid (Step p w { p with M := some m } W2.drew b) := ST2.out.then ((Below.refl _ _).drew)
    have HPC : Hid (∀ W, But (fun k => k = m) W2.drew W → W.cell? ⟨b, 0, none⟩ = some (.map (some m))) := fun W hW => hW.cell (fun e => ((HAT.out).apart.1 m rfl).1 e.symm) HAT.out.box.at.c0
    have HXO : Hid (Ov.ok ⟨⟨(s, n), dp, ct, kd, it, q, sn⟩, A, c, A2, c2⟩ W2.drew W2.drew.heap.size) := HKO.out _ _ HST.out
    have hS0 : But (fun k => k = m) W2.drew W2.drew := But.refl _ _
    clear HC2 ST2 HST1 HC HRw
    refine wp_region_held_drew (S := fun W => But (fun k => k = m) W2.drew W) (by kernel_rfl) hS0 (fun hS => ?_)
    clear hS0
    generalize W2.drew = Wd at *
    refine wpAnyH_take (i := 0) (v := ?_) rfl (by kernel_rfl) (by kernel_rfl) (by kernel_rfl) (fun _ _ _ h => h) (Yields.yieldsIf (Or.inl ⟨by kernel_rfl, ?_⟩)) hS ?_
    rotate_left
    · first | (intro w; go_simp; done) | (intro w; go_simp; with_reducible rfl)
    refine wpAnyH_take (i := 1) (v := ?_) rfl (by kernel_rfl) (by kernel_rfl) (by kernel_rfl) (fun _ _ _ h => h) (Yields.yieldsIf (Or.inl ⟨by kernel_rfl, ?_⟩)) hS ?_
    rotate_left
    · first | (intro w; go_simp; done) | (intro w; go_simp; with_reducible rfl)
    refine wpAnyH_take (i := 2) (v := ?_) rfl (by kernel_rfl) (by kernel_rfl) (by kernel_rfl) (fun _ _ _ h => h) (Yields.yieldsIf (Or.inl ⟨by kernel_rfl, ?_⟩)) hS ?_
    rotate_left
    · first | (intro w; go_simp; done) | (intro w; go_simp; with_reducible rfl)
    refine wpAnyH_take (i := 3) (v := ?_) rfl (by kernel_rfl) (by kernel_rfl) (by kernel_rfl) (fun _ _ _ h => h) (Or.inl ⟨by kernel_rfl, fun W hW => ?_⟩) hS ?_
    rotate_left
    · obtain ⟨⟨c0, c1, c2_⟩, c3, c4, c5, c6, c7⟩ := HCC.out W hW; have d0 := HPC.out W hW
      first | (go_simp; done) | (go_simp; with_reducible rfl)
    refine wpAnyH_take (i := 4) (v := ?_) rfl (by kernel_rfl) (by kernel_rfl) (by kernel_rfl) (fun _ _ _ h => h) (Yields.yieldsIf (Or.inl ⟨by kernel_rfl, ?_⟩)) hS ?_
    rotate_left
    · first | (intro w; go_simp; done) | (intro w; go_simp; with_reducible rfl)
    refine wpAnyH_take (i := 5) (v := ?_) rfl (by kernel_rfl) (by kernel_rfl) (by kernel_rfl) (fun _ _ _ h => h) (Or.inl ⟨by kernel_rfl, fun W hW => ?_⟩) hS ?_
    rotate_left
    · obtain ⟨⟨c0, c1, c2_⟩, c3, c4, c5, c6, c7⟩ := HCC.out W hW; have d0 := HPC.out W hW
      first | (go_simp; done) | (go_simp; with_reducible rfl)
    refine wpAnyH_take (i := 6) (v := ?_) rfl (by kernel_rfl) (by kernel_rfl) (by kernel_rfl) (fun _ _ _ h => h) (Or.inl ⟨by kernel_rfl, fun W hW => ?_⟩) hS ?_
    rotate_left
    · obtain ⟨⟨c0, c1, c2_⟩, c3, c4, c5, c6, c7⟩ := HCC.out W hW; have d0 := HPC.out W hW
      first | (go_simp; done) | (go_simp; with_reducible rfl)
    try go_simp
    refine wpAnyH_ready (rs := [7]) (by kernel_rfl) (by simp) ?_
    refine AllReadyH.cons rfl (fun K hK => ?_) AllReadyH.nil
    have hcall := own_r _ HXO.out HH.out.2.1 HH.out.2.2.1
    simp only [Ov.v, Ov.cells] at hcall
    rw [HL.out.1, HL.out.2] at hcall
    go_simp
    go_wp2_with fail
    refine hcall.mono ?_
    rintro e wa ⟨⟨y, hyo, rfl, hyk, l1, l2⟩, hba⟩
    clear hcall
    obtain ⟨wb, hrun, hmap, hgr⟩ := (show MapO wa m p.O.length p.O from ((HAT.out.up hba).mp).2).put (by have := HH.out.2.2.2; unfold maxLen; omega) y (by rw [hyo]; exact HDK.out.1) (by rw [hyo]; exact HDK.out.2)
    have HFIN : Hid (∃ (y : Ov) (m : Nat), y.o = ⟨(s, n), dp, ct, kd, it, q, sn⟩ ∧ Step p w { p with M := some m, O := y :: p.O } wb b) := ⟨y, m, hyo, HST.out.trans (HAT.out.kept rfl hba hgr hyk l1 l2 hmap)⟩
    have HS2 : Hid (But (fun k => k = m) Wd wb) := (But.of hba).trans (grown_but hgr)
    rw [hyo] at hrun
    simp only [dv] at hrun
    obtain ⟨vy, hvy⟩ : ∃ v, y.v = v := ⟨_, rfl⟩
    rw [hvy] at hrun ⊢
    have hS3 : But (fun k => k = m) Wd wa := But.of hba
    clear hyo l1 l2 hyk hmap hgr hba hvy
    refine hK.out _ _ hS3 (fun hS => ?_)
    clear hK K hS3
    try go_simp
    refine wpAnyH_ready (rs := [8]) (by kernel_rfl) (by simp) ?_
    refine AllReadyH.cons rfl (fun K hK => ?_) AllReadyH.nil
    go_simp
    go_wp2_with fail
    have hS3 : But (fun k => k = m) Wd wb := HS2.out
    refine hK.out _ _ hS3 (fun hS => ?_)
    clear hK K hS3
    try go_simp
    refine wpAnyH_done (by kernel_rfl) ?_ _
    go_wp2
    go_end0
    obtain ⟨y, m', hy, hst⟩ := HFIN.out
    exact ⟨y, m', hy, rfl, hst⟩
  | some m =>
    have ST2 : Hid (Step p w { p with M := some m } W1 b) := by
      have h0 := HST1.out
      have e : { p with M := some m } = p := by rw [← HM.out]
      show Step p w _ W1 b
      rw [e]; exact h0
    obtain ⟨W2, hW2⟩ : ∃ W2, W1 = W2 := ⟨_, rfl⟩
    have hC2 : ∀ W, But (fun k => k = m) W2 W → But (fun k => k = b ∨ k = m) W1 W := fun W hW => by rw [hW2]; exact hW.mono fun k _ hk => .inr hk
    have HC2 := Lib.hid hC2
    rw [hW2] at ST2
    have HW2 := Lib.hid hW2
    clear hW2 hC2
    go_upto_region 3 with fail
    rw [HW2.out]
    have HBW : Hid (w.heap.size < W1.heap.size ∧ w.heap.size ≠ b ∧ w.heap.size ≠ m) := by
      have h0 : W1.heap.size = w.heap.size + 1 := by rw [← HWE.out]; simp
      refine ⟨by omega, by have := HBL.out; omega, ?_⟩
      have hq := ST2.out.own m (.inr (.inl rfl))
      have := (h.own_lt m (.inr (.inl HM.out))).2; omega
    have HCC : Hid (∀ W, But (fun k => k = m) W2.drew W → (W.cell? ⟨w.heap.size, 0, none⟩ = some (.string s) ∧ W.cell? ⟨w.heap.size, 1, none⟩ = some (.int .i64 n) ∧ W.cell? ⟨w.heap.size, 2, none⟩ = some (.slice A a1 c)) ∧ W.cell? ⟨w.heap.size, 3, none⟩ = some (.string ct) ∧ W.cell? ⟨w.heap.size, 4, none⟩ = some (.int .i64 kd) ∧ W.cell? ⟨w.heap.size, 5, none⟩ = some (.string it) ∧ W.cell? ⟨w.heap.size, 6, none⟩ = some (.int .i64 q) ∧ W.cell? ⟨w.heap.size, 7, none⟩ = some (.slice A2 a2 c2)) := fun W hW => by
      have hb := HC2.out W ⟨hW.os, hW.tape, hW.output, hW.size, hW.block⟩
      obtain ⟨⟨k0, k1, k2_⟩, k3, k4, k5, k6, k7⟩ := HC.out _ HRw.out
      have hn : ∀ i, ¬ ((fun k => k = b ∨ k = m) (Addr.block ⟨w.heap.size, i, none⟩)) := fun i hh => by
        rcases hh with hh | hh
        · exact HBW.out.2.1 hh
        · exact HBW.out.2.2 hh
      exact ⟨⟨hb.cell (hn 0) k0, hb.cell (hn 1) k1, hb.cell (hn 2) k2_⟩, hb.cell (hn 3) k3, hb.cell (hn 4) k4, hb.cell (hn 5) k5, hb.cell (hn 6) k6, hb.cell (hn 7) k7⟩
    have HAT : Hid (Pv.At { p with M := some m } W2.drew b) := (ST2.out.at_).up ((Below.refl _ _).drew)
    have HST : Hid (Step p w { p with M := some m } W2.drew b) := ST2.out.then ((Below.refl _ _).drew)
    have HPC : Hid (∀ W, But (fun k => k = m) W2.drew W → W.cell? ⟨b, 0, none⟩ = some (.map (some m))) := fun W hW => hW.cell (fun e => ((HAT.out).apart.1 m rfl).1 e.symm) HAT.out.box.at.c0
    have HXO : Hid (Ov.ok ⟨⟨(s, n), dp, ct, kd, it, q, sn⟩, A, c, A2, c2⟩ W2.drew W2.drew.heap.size) := HKO.out _ _ HST.out
    have hS0 : But (fun k => k = m) W2.drew W2.drew := But.refl _ _
    clear HC2 ST2 HST1 HC HRw
    refine wp_region_held_drew (S := fun W => But (fun k => k = m) W2.drew W) (by kernel_rfl) hS0 (fun hS => ?_)
    clear hS0
    generalize W2.drew = Wd at *
    refine wpAnyH_take (i := 0) (v := ?_) rfl (by kernel_rfl) (by kernel_rfl) (by kernel_rfl) (fun _ _ _ h => h) (Yields.yieldsIf (Or.inl ⟨by kernel_rfl, ?_⟩)) hS ?_
    rotate_left
    · first | (intro w; go_simp; done) | (intro w; go_simp; with_reducible rfl)
    refine wpAnyH_take (i := 1) (v := ?_) rfl (by kernel_rfl) (by kernel_rfl) (by kernel_rfl) (fun _ _ _ h => h) (Yields.yieldsIf (Or.inl ⟨by kernel_rfl, ?_⟩)) hS ?_
    rotate_left
    · first | (intro w; go_simp; done) | (intro w; go_simp; with_reducible rfl)
    refine wpAnyH_take (i := 2) (v := ?_) rfl (by kernel_rfl) (by kernel_rfl) (by kernel_rfl) (fun _ _ _ h => h) (Yields.yieldsIf (Or.inl ⟨by kernel_rfl, ?_⟩)) hS ?_
    rotate_left
    · first | (intro w; go_simp; done) | (intro w; go_simp; with_reducible rfl)
    refine wpAnyH_take (i := 3) (v := ?_) rfl (by kernel_rfl) (by kernel_rfl) (by kernel_rfl) (fun _ _ _ h => h) (Or.inl ⟨by kernel_rfl, fun W hW => ?_⟩) hS ?_
    rotate_left
    · obtain ⟨⟨c0, c1, c2_⟩, c3, c4, c5, c6, c7⟩ := HCC.out W hW; have d0 := HPC.out W hW
      first | (go_simp; done) | (go_simp; with_reducible rfl)
    refine wpAnyH_take (i := 4) (v := ?_) rfl (by kernel_rfl) (by kernel_rfl) (by kernel_rfl) (fun _ _ _ h => h) (Yields.yieldsIf (Or.inl ⟨by kernel_rfl, ?_⟩)) hS ?_
    rotate_left
    · first | (intro w; go_simp; done) | (intro w; go_simp; with_reducible rfl)
    refine wpAnyH_take (i := 5) (v := ?_) rfl (by kernel_rfl) (by kernel_rfl) (by kernel_rfl) (fun _ _ _ h => h) (Or.inl ⟨by kernel_rfl, fun W hW => ?_⟩) hS ?_
    rotate_left
    · obtain ⟨⟨c0, c1, c2_⟩, c3, c4, c5, c6, c7⟩ := HCC.out W hW; have d0 := HPC.out W hW
      first | (go_simp; done) | (go_simp; with_reducible rfl)
    refine wpAnyH_take (i := 6) (v := ?_) rfl (by kernel_rfl) (by kernel_rfl) (by kernel_rfl) (fun _ _ _ h => h) (Or.inl ⟨by kernel_rfl, fun W hW => ?_⟩) hS ?_
    rotate_left
    · obtain ⟨⟨c0, c1, c2_⟩, c3, c4, c5, c6, c7⟩ := HCC.out W hW; have d0 := HPC.out W hW
      first | (go_simp; done) | (go_simp; with_reducible rfl)
    try go_simp
    refine wpAnyH_ready (rs := [7]) (by kernel_rfl) (by simp) ?_
    refine AllReadyH.cons rfl (fun K hK => ?_) AllReadyH.nil
    have hcall := own_r _ HXO.out HH.out.2.1 HH.out.2.2.1
    simp only [Ov.v, Ov.cells] at hcall
    rw [HL.out.1, HL.out.2] at hcall
    go_simp
    go_wp2_with fail
    refine hcall.mono ?_
    rintro e wa ⟨⟨y, hyo, rfl, hyk, l1, l2⟩, hba⟩
    clear hcall
    obtain ⟨wb, hrun, hmap, hgr⟩ := (show MapO wa m p.O.length p.O from ((HAT.out.up hba).mp).2).put (by have := HH.out.2.2.2; unfold maxLen; omega) y (by rw [hyo]; exact HDK.out.1) (by rw [hyo]; exact HDK.out.2)
    have HFIN : Hid (∃ (y : Ov) (m : Nat), y.o = ⟨(s, n), dp, ct, kd, it, q, sn⟩ ∧ Step p w { p with M := some m, O := y :: p.O } wb b) := ⟨y, m, hyo, HST.out.trans (HAT.out.kept rfl hba hgr hyk l1 l2 hmap)⟩
    have HS2 : Hid (But (fun k => k = m) Wd wb) := (But.of hba).trans (grown_but hgr)
    rw [hyo] at hrun
    simp only [dv] at hrun
    obtain ⟨vy, hvy⟩ : ∃ v, y.v = v := ⟨_, rfl⟩
    rw [hvy] at hrun ⊢
    have hS3 : But (fun k => k = m) Wd wa := But.of hba
    clear hyo l1 l2 hyk hmap hgr hba hvy
    refine hK.out _ _ hS3 (fun hS => ?_)
    clear hK K hS3
    try go_simp
    refine wpAnyH_ready (rs := [8]) (by kernel_rfl) (by simp) ?_
    refine AllReadyH.cons rfl (fun K hK => ?_) AllReadyH.nil
    go_simp
    go_wp2_with fail
    have hS3 : But (fun k => k = m) Wd wb := HS2.out
    refine hK.out _ _ hS3 (fun hS => ?_)
    clear hK K hS3
    try go_simp
    refine wpAnyH_done (by kernel_rfl) ?_ _
    go_wp2
    go_end0
    obtain ⟨y, m', hy, hst⟩ := HFIN.out
    exact ⟨y, m', hy, rfl, hst⟩

end Go.Proofs.Ytdffifkleaekhaa.O
