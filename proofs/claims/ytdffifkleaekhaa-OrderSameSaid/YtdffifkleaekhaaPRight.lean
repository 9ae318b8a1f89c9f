/-
  Right.
-/
import Derived.Test.YtdffifkleaekhaaPSeen
namespace Go.Proofs.Ytdffifkleaekhaa.O
open Go.RowKit Go.Proofs.Ytdffifkleaekhaa.V
set_option linter.unusedVariables false
set_option linter.unusedSimpArgs false

set_option maxRecDepth 100000 in
set_option maxHeartbeats 3200000 in
theorem right_op (x : Ov) {w : World} (hx : x.ok w w.heap.size) : Calls Try.prog 16 #[x.v] w fun e w' => e = .returned (.bool (rightO x.o)) ∧ Below w.heap.size w w' := by
  have HX := Lib.hid hx
  obtain ⟨Xo, hXo⟩ : ∃ X, x = X := ⟨_, rfl⟩
  have hOK : ∀ W, Below w.heap.size w W → Ov.ok Xo W W.heap.size := fun W hW => by rw [← hXo]; exact hx.up hW
  have hC1 : ∀ W, Below w.heap.size w W → Calls Try.prog 50 #[Xo.v] W fun e w' => e = .returned (.bool (placeB Xo.o)) ∧ Below W.heap.size W w' := fun W hW => rightPlace_any Xo (hOK W hW)
  have hC2 : ∀ W, Below w.heap.size w W → Calls Try.prog 52 #[Xo.v] W fun e w' => e = .returned (.bool (qtyB Xo.o)) ∧ Below W.heap.size W w' := fun W hW => rightQty_any Xo (hOK W hW)
  have hC3 : ∀ W, Below w.heap.size w W → Calls Try.prog 53 #[Xo.v] W fun e w' => e = .returned (.bool (seenP Xo.o)) ∧ Below W.heap.size W w' := fun W hW => rightSeen_any Xo (hOK W hW)
  have hR : rightO x.o = (placeB Xo.o && (sizeB Xo.o.cart && (sizeB Xo.o.item && (qtyB Xo.o && seenP Xo.o)))) := by rw [hXo]; exact rightO_prog _
  rw [hR]
  obtain ⟨v1, h1⟩ : ∃ v, placeB Xo.o = v := ⟨_, rfl⟩
  obtain ⟨v2, h2⟩ : ∃ v, sizeB Xo.o.cart = v := ⟨_, rfl⟩
  obtain ⟨v3, h3⟩ : ∃ v, sizeB Xo.o.item = v := ⟨_, rfl⟩
  obtain ⟨v4, h4⟩ : ∃ v, qtyB Xo.o = v := ⟨_, rfl⟩
  obtain ⟨v5, h5⟩ : ∃ v, seenP Xo.o = v := ⟨_, rfl⟩
  rw [h1] at hC1
  rw [h4] at hC2
  rw [h5] at hC3
  rw [h1, h2, h3, h4, h5]
  clear h1 h4 h5 hR hOK HX
  subst hXo
  have hb1 : Below w.heap.size w (w.alloc (.cells x.cells 26)) := (Below.refl _ w).alloc (Nat.le_refl _) _
  have hop : ∀ W, Below (w.alloc (.cells x.cells 26)).heap.size (w.alloc (.cells x.cells 26)) W → Op8.Cells W w.heap.size x := fun W hW => ((Op8.new w x).below hW (by simp)).at
  have hdd : ∀ W, Below (w.alloc (.cells x.cells 26)).heap.size (w.alloc (.cells x.cells 26)) W → x.ok W W.heap.size := fun W hW => (hx.up hb1).up hW
  obtain ⟨⟨⟨s, n⟩, dp, ct, kd, it, q, sn⟩, A, c, A2, c2⟩ := x
  have HF := Lib.hid hx.fit
  clear hx
  simp only [Ov.v, Ov.cells] at hop hb1 hdd ⊢
  obtain ⟨a1, ha1⟩ : ∃ L, dp.length = L := ⟨_, rfl⟩
  obtain ⟨a2, ha2⟩ : ∃ L, sn.length = L := ⟨_, rfl⟩
  have HL := Lib.hid (And.intro ha1 ha2)
  rw [ha1, ha2] at hop hb1 hdd ⊢
  obtain ⟨W1, hW1⟩ : ∃ W1, w.alloc (.cells #[.string s, .int .i64 n, .slice A a1 c, .string ct, .int .i64 kd, .string it, .int .i64 q, .slice A2 a2 c2] 26) = W1 := ⟨_, rfl⟩
  have HWE := Lib.hid hW1
  rw [hW1] at hop hb1 hdd
  have HC : Hid (∀ W, Below W1.heap.size W1 W → (W.cell? ⟨w.heap.size, 0, none⟩ = some (.string s) ∧ W.cell? ⟨w.heap.size, 1, none⟩ = some (.int .i64 n) ∧ W.cell? ⟨w.heap.size, 2, none⟩ = some (.slice A a1 c)) ∧ W.cell? ⟨w.heap.size, 3, none⟩ = some (.string ct) ∧ W.cell? ⟨w.heap.size, 4, none⟩ = some (.int .i64 kd) ∧ W.cell? ⟨w.heap.size, 5, none⟩ = some (.string it) ∧ W.cell? ⟨w.heap.size, 6, none⟩ = some (.int .i64 q) ∧ W.cell? ⟨w.heap.size, 7, none⟩ = some (.slice A2 a2 c2)) := fun W hW => by
    obtain ⟨c0, c1, c2_, c3, c4, c5, c6, c7⟩ := hop W hW
    simp only at c0 c1 c2_ c3 c4 c5 c6 c7
    rw [ha1] at c2_; rw [ha2] at c7
    exact ⟨⟨c0, c1, c2_⟩, c3, c4, c5, c6, c7⟩
  have HB1 : Hid (∀ W, Below W1.heap.size W1 W → Below w.heap.size w W) := fun W hW => hb1.trans (hW.mono hb1.size)
  have HDR : Hid (∀ W, Below W1.heap.size W1 W → Vc.ok ⟨A, c, dp⟩ W W.heap.size ∧ Vc.ok ⟨A2, c2, sn⟩ W W.heap.size) := fun W hW => ⟨(hdd W hW).d, (hdd W hW).s⟩
  have hRw : Below W1.heap.size W1 W1 := Below.refl _ _
  clear hop hb1 hdd hW1 ha1 ha2
  have HV := Lib.hid (And.intro h2 h3)
  have HCA := Lib.hid (And.intro hC1 (And.intro hC2 hC3))
  simp only [Ov.v, Ov.cells] at HCA HV
  rw [HL.out.1, HL.out.2] at HCA
  clear h2 h3 hC1 hC2 hC3
  obtain ⟨⟨c0, c1, c2_⟩, c3, c4, c5, c6, c7⟩ := HC.out _ hRw
  have H0 := Lib.hid hRw
  clear hRw
  go_enter Try.func16, Try.ntmps16
  go_upto_region 1 with fail
  rw [HWE.out]
  go_wp2_with fail
  refine (HCA.out.1 _ (HB1.out _ H0.out)).mono ?_
  rintro e wa ⟨rfl, hba⟩
  have Ha := Lib.hid (H0.out.trans (hba.mono H0.out.size))
  clear hba c0 c1 c2_ c3 c4 c5 c6 c7
  obtain ⟨⟨c0, c1, c2_⟩, c3, c4, c5, c6, c7⟩ := HC.out _ Ha.out
  cases v1 with
  | false =>
    go_wp2
    go_ret
    exact ⟨ret_bool (by simp), HB1.out _ Ha.out⟩
  | true =>
    go_wp2_with fail
    refine (rightName_any ct _).mono ?_
    rintro e wb ⟨rfl, hba⟩
    have Hb := Lib.hid (Ha.out.trans (hba.mono Ha.out.size))
    clear hba c0 c1 c2_ c3 c4 c5 c6 c7
    obtain ⟨⟨c0, c1, c2_⟩, c3, c4, c5, c6, c7⟩ := HC.out _ Hb.out
    rw [HV.out.1]
    cases v2 with
    | false =>
      go_wp2
      go_ret
      exact ⟨ret_bool (by simp), HB1.out _ Hb.out⟩
    | true =>
      go_wp2_with fail
      refine (rightName_any it _).mono ?_
      rintro e wc ⟨rfl, hba⟩
      have Hc := Lib.hid (Hb.out.trans (hba.mono Hb.out.size))
      clear hba c0 c1 c2_ c3 c4 c5 c6 c7
      obtain ⟨⟨c0, c1, c2_⟩, c3, c4, c5, c6, c7⟩ := HC.out _ Hc.out
      rw [HV.out.2]
      cases v3 with
      | false =>
        go_wp2
        go_ret
        exact ⟨ret_bool (by simp), HB1.out _ Hc.out⟩
      | true =>
        go_wp2_with fail
        refine (HCA.out.2.1 _ (HB1.out _ Hc.out)).mono ?_
        rintro e wd ⟨rfl, hba⟩
        have Hd := Lib.hid (Hc.out.trans (hba.mono Hc.out.size))
        clear hba c0 c1 c2_ c3 c4 c5 c6 c7
        obtain ⟨⟨c0, c1, c2_⟩, c3, c4, c5, c6, c7⟩ := HC.out _ Hd.out
        cases v4 with
        | false =>
          go_wp2
          go_ret
          exact ⟨ret_bool (by simp), HB1.out _ Hd.out⟩
        | true =>
          go_wp2_with fail
          refine (HCA.out.2.2 _ (HB1.out _ Hd.out)).mono ?_
          rintro e we ⟨rfl, hba⟩
          have He := Lib.hid (Hd.out.trans (hba.mono Hd.out.size))
          clear hba c0 c1 c2_ c3 c4 c5 c6 c7
          obtain ⟨⟨c0, c1, c2_⟩, c3, c4, c5, c6, c7⟩ := HC.out _ He.out
          go_wp2
          go_ret
          exact ⟨ret_bool (by simp), HB1.out _ He.out⟩

end Go.Proofs.Ytdffifkleaekhaa.O
