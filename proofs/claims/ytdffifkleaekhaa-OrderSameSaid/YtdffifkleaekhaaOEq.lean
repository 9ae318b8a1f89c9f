/-
  The reference's Equal.
-/
import Derived.Test.YtdffifkleaekhaaOEv
namespace Go.Proofs.Ytdffifkleaekhaa.O
open Go.RowKit Go.Proofs.Ytdffifkleaekhaa.V
set_option linter.unusedVariables false
set_option linter.unusedSimpArgs false

theorem eq_parts (a b : Op) : decide (a = b) = (decide (a.deps = b.deps) && (decide (a.seen = b.seen) && (decide (a.dot = b.dot) && (decide (a.cart = b.cart) && (decide (a.kind = b.kind) && (decide (a.item = b.item) && decide (a.qty = b.qty))))))) := by
  rw [Bool.eq_iff_iff]
  simp only [Bool.and_eq_true, decide_eq_true_eq]
  constructor
  · rintro rfl; exact ⟨rfl, rfl, rfl, rfl, rfl, rfl, rfl⟩
  · rintro ⟨h1, h2, h3, h4, h5, h6, h7⟩
    cases a; cases b
    simp only at h1 h2 h3 h4 h5 h6 h7
    subst h1 h2 h3 h4 h5 h6 h7; rfl
/-- Two variables of the call's own, each with an operation. -/
theorem two_ops (w : World) (x y : Ov) : ∀ W, Below (w.heap.size + 2) ((w.alloc (.cells x.cells 26)).alloc (.cells y.cells 26)) W → Op8.Cells W w.heap.size x ∧ Op8.Cells W (w.heap.size + 1) y := by
  intro W hW
  have h1 := Op8.new w x
  have h2 := Op8.new (w.alloc (.cells x.cells 26)) y
  have hs : (w.alloc (.cells x.cells 26)).heap.size = w.heap.size + 1 := by simp
  have hb : Below (w.heap.size + 1) (w.alloc (.cells x.cells 26)) ((w.alloc (.cells x.cells 26)).alloc (.cells y.cells 26)) := (Below.refl _ _).alloc (by simp) _
  rw [hs] at h2
  exact ⟨((h1.below hb (by omega)).below hW (by omega)).at, (h2.below hW (by omega)).at⟩

set_option maxRecDepth 100000 in
set_option maxHeartbeats 3200000 in
theorem requal_any (x y : Ov) {w : World} (hx : x.ok w w.heap.size) (hy : y.ok w w.heap.size) : Calls Try.prog 20 #[x.v, y.v] w fun e w' => e = .returned (.bool (decide (x.o = y.o))) ∧ Below w.heap.size w w' := by
  have hb2 : Below w.heap.size w ((w.alloc (.cells x.cells 26)).alloc (.cells y.cells 26)) := ((Below.refl _ w).alloc (Nat.le_refl _) _).alloc (by simp) _
  have hsz : ((w.alloc (.cells x.cells 26)).alloc (.cells y.cells 26)).heap.size = w.heap.size + 2 := by simp
  have HC2 := Lib.hid (two_ops w x y)
  rw [eq_parts]
  obtain ⟨⟨⟨s, n⟩, dp, ct, kd, it, q, sn⟩, A, c, A2, c2⟩ := x
  obtain ⟨⟨⟨s', n'⟩, dp', ct', kd', it', q', sn'⟩, A', c', A2', c2'⟩ := y
  have HX := Lib.hid (And.intro hx.d (And.intro hx.s (And.intro hy.d hy.s)))
  clear hx hy
  simp only [Ov.v, Ov.cells] at HC2 hb2 hsz ⊢
  simp only at HX
  obtain ⟨D1, hD1⟩ : ∃ X, decide (dp = dp') = X := ⟨_, rfl⟩
  obtain ⟨S1, hS1⟩ : ∃ X, decide (sn = sn') = X := ⟨_, rfl⟩
  obtain ⟨T1, hT1⟩ : ∃ X, decide (((s, n) : D) = (s', n')) = X := ⟨_, rfl⟩
  obtain ⟨C1, hC1⟩ : ∃ X, decide (ct = ct') = X := ⟨_, rfl⟩
  obtain ⟨K1, hK1⟩ : ∃ X, decide (kd = kd') = X := ⟨_, rfl⟩
  obtain ⟨I1, hI1⟩ : ∃ X, decide (it = it') = X := ⟨_, rfl⟩
  obtain ⟨Q1, hQ1⟩ : ∃ X, decide (q = q') = X := ⟨_, rfl⟩
  have hq : ∀ wx, (binOp .eql 23 (.agg #[.string s, .int .i64 n]) (.agg #[.string s', .int .i64 n'])).run Try.prog wx = .ok (.bool T1) wx := fun wx => by rw [← hT1]; exact eq_dot s s' n n' wx
  have hgd := guard24
  have hcE : (ct.toList == ct'.toList) = C1 := by rw [eq_str, hC1]
  have hiE : (it.toList == it'.toList) = I1 := by rw [eq_str, hI1]
  have hkE : (kd == kd') = K1 := by rw [← hK1]; rfl
  have hqE : (q == q') = Q1 := by rw [← hQ1]; rfl
  have HD1 := Lib.hid hD1
  have HS1 := Lib.hid hS1
  have HFin : Hid ((decide (dp = dp') && (decide (sn = sn') && (decide (((s, n) : D) = (s', n')) && (decide (ct = ct') && (decide (kd = kd') && (decide (it = it') && decide (q = q'))))))) = (D1 && (S1 && (T1 && (C1 && (K1 && (I1 && Q1))))))) := by show _ = _; rw [hD1, hS1, hT1, hC1, hK1, hI1, hQ1]
  rw [HFin.out]
  clear hD1 hS1 hT1 hC1 hK1 hI1 hQ1 HFin
  obtain ⟨a1, ha1⟩ : ∃ L, dp.length = L := ⟨_, rfl⟩
  obtain ⟨b1, hb1⟩ : ∃ L, dp'.length = L := ⟨_, rfl⟩
  obtain ⟨a2, ha2⟩ : ∃ L, sn.length = L := ⟨_, rfl⟩
  obtain ⟨b2, hb2'⟩ : ∃ L, sn'.length = L := ⟨_, rfl⟩
  have HL := Lib.hid (And.intro ha1 (And.intro hb1 (And.intro ha2 hb2')))
  rw [ha1, hb1, ha2, hb2'] at HC2 hb2 hsz ⊢
  obtain ⟨W2, hW2⟩ : ∃ W2, (w.alloc (.cells #[.string s, .int .i64 n, .slice A a1 c, .string ct, .int .i64 kd, .string it, .int .i64 q, .slice A2 a2 c2] 26)).alloc (.cells #[.string s', .int .i64 n', .slice A' b1 c', .string ct', .int .i64 kd', .string it', .int .i64 q', .slice A2' b2 c2'] 26) = W2 := ⟨_, rfl⟩
  have HWE := Lib.hid hW2
  rw [hW2] at HC2 hb2 hsz
  have HB2 := Lib.hid hb2
  have HSZ := Lib.hid hsz
  clear hW2 hb2 hsz ha1 hb1 ha2 hb2'
  go_enter Try.func20, Try.ntmps20
  go_wp2_with fail
  rw [HWE.out, ← HL.out.1, ← HL.out.2.1]
  refine (same_any c c' (HX.out.1.1.up HB2.out) HX.out.1.2.2.2 (HX.out.2.2.1.1.up HB2.out) HX.out.2.2.1.2.2.2).mono ?_
  rintro e wa ⟨rfl, hba⟩
  rw [HD1.out, HL.out.1, HL.out.2.1]
  have HBA := Lib.hid hba
  obtain ⟨⟨c0, c1, c2_, c3, c4, c5, c6, c7⟩, ⟨d0, d1, d2, d3, d4, d5, d6, d7⟩⟩ := HC2.out wa (by rw [← HSZ.out]; exact HBA.out)
  simp only at c0 c1 c2_ c3 c4 c5 c6 c7 d0 d1 d2 d3 d4 d5 d6 d7
  rw [HL.out.1] at c2_
  rw [HL.out.2.2.1] at c7
  rw [HL.out.2.1] at d2
  rw [HL.out.2.2.2] at d7
  clear hba
  go_wp2_with fail
  rw [← HL.out.2.2.1, ← HL.out.2.2.2]
  refine (same_any c2 c2' ((HX.out.2.1.1.up HB2.out).up HBA.out) HX.out.2.1.2.2.2 ((HX.out.2.2.2.1.up HB2.out).up HBA.out) HX.out.2.2.2.2.2.2).mono ?_
  rintro e wb ⟨rfl, hbb⟩
  rw [HS1.out, HL.out.2.2.1, HL.out.2.2.2]
  have HBB := Lib.hid (HBA.out.trans (hbb.mono HBA.out.size))
  clear c0 c1 c2_ c3 c4 c5 c6 c7 d0 d1 d2 d3 d4 d5 d6 d7 hbb
  obtain ⟨⟨c0, c1, c2_, c3, c4, c5, c6, c7⟩, ⟨d0, d1, d2, d3, d4, d5, d6, d7⟩⟩ := HC2.out wb (by rw [← HSZ.out]; exact HBB.out)
  simp only at c0 c1 c2_ c3 c4 c5 c6 c7 d0 d1 d2 d3 d4 d5 d6 d7
  have HB := Lib.hid (HB2.out.trans (HBB.out.mono HB2.out.size))
  clear c2_ c7 d2 d7
  cases D1 with
  | false =>
    go_wp2
    go_ret
    exact ⟨ret_bool (by simp), HB.out⟩
  | true =>
    cases S1 with
    | false =>
      go_wp2
      go_ret
      exact ⟨ret_bool (by simp), HB.out⟩
    | true =>
      cases T1 with
      | false =>
        go_wp2
        go_ret
        exact ⟨ret_bool (by simp), HB.out⟩
      | true =>
        cases C1 with
        | false =>
          go_wp2
          go_ret
          exact ⟨ret_bool (by simp), HB.out⟩
        | true =>
          cases K1 with
          | false =>
            go_wp2
            go_ret
            exact ⟨ret_bool (by simp), HB.out⟩
          | true =>
            cases I1 with
            | false =>
              go_wp2
              go_ret
              exact ⟨ret_bool (by simp), HB.out⟩
            | true =>
              go_wp2
              go_ret
              exact ⟨ret_bool (by simp), HB.out⟩
end Go.Proofs.Ytdffifkleaekhaa.O
