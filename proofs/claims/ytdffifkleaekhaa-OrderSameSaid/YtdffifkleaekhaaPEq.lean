/-
  slices.Equal of dots; equal: two operations compared.
-/
import Derived.Test.YtdffifkleaekhaaPSmall
import Derived.Test.YtdffifkleaekhaaOEq
namespace Go.Proofs.Ytdffifkleaekhaa.O
open Go.RowKit Go.Proofs.Ytdffifkleaekhaa.V
set_option linter.unusedVariables false
set_option linter.unusedSimpArgs false

set_option maxRecDepth 100000 in
set_option maxHeartbeats 3200000 in
theorem equalD_any {A A2 : Option Addr} {a b : List D} (c c2 : Nat) {w : World} (hra : RowD w w.heap.size A a) (hla : a.length ≤ 10000000000000) (hrb : RowD w w.heap.size A2 b) (hlb : b.length ≤ 10000000000000) : Calls Try.prog 86 #[.slice A a.length c, .slice A2 b.length c2] w fun e w' => e = .returned (.bool (decide (a = b))) ∧ Below w.heap.size w w' := by
  by_cases hln : a.length = b.length
  · obtain ⟨L, hL⟩ : ∃ L, a.length = L := ⟨_, rfl⟩
    rw [← hln, hL]
    have hLb : b.length = L := by rw [← hln, hL]
    obtain ⟨V, hV⟩ : ∃ V, decide (a = b) = V := ⟨_, rfl⟩
    rw [hV]
    have hL64 : L ≤ 10000000000000 := by omega
    have HV := Lib.hid hV
    have HA := Lib.hid hra
    have HB := Lib.hid hrb
    have HL := Lib.hid (And.intro hL hLb)
    clear hV hra hrb hla hlb hln hL hLb
    go_enter Try.func86, Try.ntmps86
    go_wp2
    go_loopg [13] L (fun k i wr => ∃ (j : Nat), j ≤ L ∧ k = L - j ∧ i = .int .i64 j ∧ Hid (decide (a.drop j = b.drop j) = V) ∧ Below w.heap.size w wr)
    case atStart => exact ⟨0, by omega, by omega, rfl, HV.out, Below.refl _ _⟩
    case round =>
      obtain ⟨j, hj, hgk, rfl, hat, hbw⟩ := hrel
      have HBW := Lib.hid hbw
      have HGK := Lib.hid hgk; clear hgk
      by_cases hlt : j < L
      · have hlt1 : j < a.length := by rw [HL.out.1]; exact hlt
        have hlt2 : j < b.length := by rw [HL.out.2]; exact hlt
        obtain ⟨b1, o1, rfl, hbs1, c0, c1⟩ := HA.out.at j hlt1
        obtain ⟨b2, o2, rfl, hbs2, d0, d1⟩ := HB.out.at j hlt2
        obtain ⟨⟨s, n⟩, hd⟩ : ∃ d, a[j]'hlt1 = d := ⟨_, rfl⟩
        obtain ⟨⟨t, m⟩, he⟩ : ∃ d, b[j]'hlt2 = d := ⟨_, rfl⟩
        rw [hd] at c0 c1
        rw [he] at d0 d1
        have g0 := (hbw.cell hbs1).trans c0
        have g1 := (hbw.cell (p := ⟨b1, o1 + j * 2 + 1, none⟩) hbs1).trans c1
        have g2 := (hbw.cell hbs2).trans d0
        have g3 := (hbw.cell (p := ⟨b2, o2 + j * 2 + 1, none⟩) hbs2).trans d1
        simp only at g0 g1 g2 g3
        clear c0 c1 d0 d1 hbw
        have hk := Lib.hid (same_drop hlt1 hd hlt2 he)
        obtain ⟨E, hE⟩ : ∃ E, decide (((s, n) : D) = (t, m)) = E := ⟨_, rfl⟩
        have hE1 : (decide (s = t) && decide (n = m)) = E := by rw [← hE]; simp [Prod.mk.injEq]
        have hq : ∀ wx, (binOp .neq 23 (.agg #[.string s, .int .i64 n]) (.agg #[.string t, .int .i64 m])).run Try.prog wx = .ok (.bool (!E)) wx := fun wx => by rw [← hE1]; exact neq_dot s t n m wx
        have hgd := guard24
        clear hE1 hd he
        cases E with
        | true =>
          have hf := Lib.hid (show decide (a.drop (j + 1) = b.drop (j + 1)) = V by rw [← hat.out, hk.out, hE]; rfl)
          clear hE
          go_upto_region 6 with fail
          go_quiet (fail)
          go_wp2
          go_roundg (L - (j + 1))
          case rel => exact ⟨j + 1, by omega, rfl, by go_num, hf, below_drewN HBW.out _⟩
          case measure => have := HGK.out; omega
        | false =>
          have hf := Lib.hid (show V = false by rw [← hat.out, hk.out, hE]; rfl)
          clear hE
          go_upto_region 6 with fail
          go_quiet (fail)
          go_wp2
          go_ret
          exact ⟨ret_bool (by rw [hf.out]), below_drewN HBW.out _⟩
      · have hin : j = L := by omega
        subst hin
        have hf := Lib.hid (show V = true by rw [← hat.out, List.drop_eq_nil_of_le (by have := HL.out.1; omega), List.drop_eq_nil_of_le (by have := HL.out.2; omega)]; simp)
        go_wp2
        go_ret
        exact ⟨ret_bool hf.out.symm, hbw⟩
  · have hf := Lib.hid (show decide (a = b) = false by simp; intro h; exact hln (by rw [h]))
    obtain ⟨L, hL⟩ : ∃ L, a.length = L := ⟨_, rfl⟩
    obtain ⟨M, hM⟩ : ∃ L, b.length = L := ⟨_, rfl⟩
    rw [hL, hM] at hln ⊢
    have hne : (((L : Nat) : Int) != ((M : Nat) : Int)) = true := by simp; omega
    clear hL hM hln
    go_enter Try.func86, Try.ntmps86
    go_wp2
    go_ret
    exact ⟨ret_bool hf.out.symm, Below.refl _ _⟩

theorem eq_partsP (a b : Op) : decide (a = b) = (decide (a.dot = b.dot) && (decide (a.deps = b.deps) && (decide (a.cart = b.cart) && (decide (a.kind = b.kind) && (decide (a.item = b.item) && (decide (a.qty = b.qty) && decide (a.seen = b.seen))))))) := by
  rw [eq_parts]
  cases decide (a.dot = b.dot) <;> cases decide (a.deps = b.deps) <;> cases decide (a.cart = b.cart) <;> cases decide (a.kind = b.kind) <;> cases decide (a.item = b.item) <;> cases decide (a.qty = b.qty) <;> cases decide (a.seen = b.seen) <;> rfl

set_option maxRecDepth 100000 in
set_option maxHeartbeats 6400000 in
theorem equal_any (x y : Ov) {w : World} (hx : x.ok w w.heap.size) (hy : y.ok w w.heap.size) : Calls Try.prog 59 #[x.v, y.v] w fun e w' => e = .returned (.bool (decide (x.o = y.o))) ∧ Below w.heap.size w w' := by
  have hb2 : Below w.heap.size w ((w.alloc (.cells x.cells 26)).alloc (.cells y.cells 26)) := ((Below.refl _ w).alloc (Nat.le_refl _) _).alloc (by simp) _
  have hsz : ((w.alloc (.cells x.cells 26)).alloc (.cells y.cells 26)).heap.size = w.heap.size + 2 := by simp
  have HC2 := Lib.hid (two_ops w x y)
  rw [eq_partsP]
  obtain ⟨⟨⟨s, n⟩, dp, ct, kd, it, q, sn⟩, A, c, A2, c2⟩ := x
  obtain ⟨⟨⟨s', n'⟩, dp', ct', kd', it', q', sn'⟩, A', c', A2', c2'⟩ := y
  have HX := Lib.hid (And.intro hx.d (And.intro hx.s (And.intro hy.d hy.s)))
  clear hx hy
  simp only [Ov.v, Ov.cells] at HC2 hb2 hsz ⊢
  simp only at HX
  obtain ⟨D1, hD1⟩ : ∃ X, decide (dp = dp') = X := ⟨_, rfl⟩
  obtain ⟨S1, hS1⟩ : ∃ X, decide (sn = sn') = X := ⟨_, rfl⟩
  obtain ⟨T1, hT1⟩ : ∃ X, decide (((s, n) : D) = (s', n')) = X := ⟨_, rfl⟩
  obtain ⟨C1, hC1⟩ : ∃ X, decide (ct = ct') = X := ⟨_, rfl⟩
  obtain ⟨K1, hK1⟩ : ∃ X, decide (kd = kd') = X := ⟨_, rfl⟩
  obtain ⟨I1, hI1⟩ : ∃ X, decide (it = it') = X := ⟨_, rfl⟩
  obtain ⟨Q1, hQ1⟩ : ∃ X, decide (q = q') = X := ⟨_, rfl⟩
  have hq : ∀ wx, (binOp .eql 23 (.agg #[.string s, .int .i64 n]) (.agg #[.string s', .int .i64 n'])).run Try.prog wx = .ok (.bool T1) wx := fun wx => by rw [← hT1]; exact eq_dot s s' n n' wx
  have hgd := guard24
  have hcE : (ct.toList == ct'.toList) = C1 := by rw [eq_str, hC1]
  have hiE : (it.toList == it'.toList) = I1 := by rw [eq_str, hI1]
  have hkE : (kd == kd') = K1 := by rw [← hK1]; rfl
  have hqE : (q == q') = Q1 := by rw [← hQ1]; rfl
  have HD1 := Lib.hid hD1
  have HS1 := Lib.hid hS1
  have HFin : Hid ((decide (((s, n) : D) = (s', n')) && (decide (dp = dp') && (decide (ct = ct') && (decide (kd = kd') && (decide (it = it') && (decide (q = q') && decide (sn = sn'))))))) = (T1 && (D1 && (C1 && (K1 && (I1 && (Q1 && S1))))))) := by show _ = _; rw [hD1, hS1, hT1, hC1, hK1, hI1, hQ1]
  rw [HFin.out]
  clear hD1 hS1 hT1 hC1 hK1 hI1 hQ1 HFin
  obtain ⟨a1, ha1⟩ : ∃ L, dp.length = L := ⟨_, rfl⟩
  obtain ⟨b1, hb1⟩ : ∃ L, dp'.length = L := ⟨_, rfl⟩
  obtain ⟨a2, ha2⟩ : ∃ L, sn.length = L := ⟨_, rfl⟩
  obtain ⟨b2, hb2'⟩ : ∃ L, sn'.length = L := ⟨_, rfl⟩
  have HL := Lib.hid (And.intro ha1 (And.intro hb1 (And.intro ha2 hb2')))
  rw [ha1, hb1, ha2, hb2'] at HC2 hb2 hsz ⊢
  obtain ⟨W2, hW2⟩ : ∃ W2, (w.alloc (.cells #[.string s, .int .i64 n, .slice A a1 c, .string ct, .int .i64 kd, .string it, .int .i64 q, .slice A2 a2 c2] 26)).alloc (.cells #[.string s', .int .i64 n', .slice A' b1 c', .string ct', .int .i64 kd', .string it', .int .i64 q', .slice A2' b2 c2'] 26) = W2 := ⟨_, rfl⟩
  have HWE := Lib.hid hW2
  rw [hW2] at HC2 hb2 hsz
  have HB2 := Lib.hid hb2
  have HSZ := Lib.hid hsz
  clear hW2 hb2 hsz ha1 hb1 ha2 hb2'
  obtain ⟨⟨c0, c1, c2_, c3, c4, c5, c6, c7⟩, ⟨d0, d1, d2, d3, d4, d5, d6, d7⟩⟩ := HC2.out W2 (by rw [← HSZ.out]; exact Below.refl _ _)
  simp only at c0 c1 c2_ c3 c4 c5 c6 c7 d0 d1 d2 d3 d4 d5 d6 d7
  rw [HL.out.1] at c2_
  rw [HL.out.2.2.1] at c7
  rw [HL.out.2.1] at d2
  rw [HL.out.2.2.2] at d7
  go_enter Try.func59, Try.ntmps59
  go_upto_region 1 with fail
  rw [HWE.out]
  cases T1 with
  | false =>
    go_wp2
    go_ret
    exact ⟨ret_bool (by simp), HB2.out⟩
  | true =>
    go_wp2_with fail
    rw [← HL.out.1, ← HL.out.2.1]
    refine (equalD_any c c' (HX.out.1.1.up HB2.out) HX.out.1.2.2.2 (HX.out.2.2.1.1.up HB2.out) HX.out.2.2.1.2.2.2).mono ?_
    rintro e wa ⟨rfl, hba⟩
    rw [HD1.out, HL.out.1, HL.out.2.1]
    have HBA := Lib.hid hba
    clear c0 c1 c2_ c3 c4 c5 c6 c7 d0 d1 d2 d3 d4 d5 d6 d7
    obtain ⟨⟨c0, c1, c2_, c3, c4, c5, c6, c7⟩, ⟨d0, d1, d2, d3, d4, d5, d6, d7⟩⟩ := HC2.out wa (by rw [← HSZ.out]; exact HBA.out)
    simp only at c0 c1 c2_ c3 c4 c5 c6 c7 d0 d1 d2 d3 d4 d5 d6 d7
    rw [HL.out.1] at c2_
    rw [HL.out.2.2.1] at c7
    rw [HL.out.2.1] at d2
    rw [HL.out.2.2.2] at d7
    have HBa := Lib.hid (HB2.out.trans (HBA.out.mono HB2.out.size))
    clear hba
    cases D1 with
    | false =>
      go_wp2
      go_ret
      exact ⟨ret_bool (by simp), HBa.out⟩
    | true =>
      cases C1 with
      | false =>
        go_wp2
        go_ret
        exact ⟨ret_bool (by simp), HBa.out⟩
      | true =>
        cases K1 with
        | false =>
          go_wp2
          go_ret
          exact ⟨ret_bool (by simp), HBa.out⟩
        | true =>
          cases I1 with
          | false =>
            go_wp2
            go_ret
            exact ⟨ret_bool (by simp), HBa.out⟩
          | true =>
            cases Q1 with
            | false =>
              go_wp2
              go_ret
              exact ⟨ret_bool (by simp), HBa.out⟩
            | true =>
              go_wp2_with fail
              rw [← HL.out.2.2.1, ← HL.out.2.2.2]
              refine (equalD_any c2 c2' ((HX.out.2.1.1.up HB2.out).up HBA.out) HX.out.2.1.2.2.2 ((HX.out.2.2.2.1.up HB2.out).up HBA.out) HX.out.2.2.2.2.2.2).mono ?_
              rintro e wb ⟨rfl, hbb⟩
              rw [HS1.out, HL.out.2.2.1, HL.out.2.2.2]
              have HBb := Lib.hid (HBa.out.trans (hbb.mono HBa.out.size))
              clear c0 c1 c2_ c3 c4 c5 c6 c7 d0 d1 d2 d3 d4 d5 d6 d7
              clear hbb
              go_wp2
              go_ret
              exact ⟨ret_bool (by simp), HBb.out⟩

end Go.Proofs.Ytdffifkleaekhaa.O
