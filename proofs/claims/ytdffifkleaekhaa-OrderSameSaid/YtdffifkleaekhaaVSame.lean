/-
  The reference's Same, SameSpans.
-/
import Derived.Test.YtdffifkleaekhaaVRHas
import Derived.Laws.StructEq
namespace Go.Proofs.Ytdffifkleaekhaa.V
open Go.RowKit
set_option linter.unusedVariables false
set_option linter.unusedSimpArgs false

theorem fields24 : ∃ f0 f1 : Field, Try.prog.underlying 23 = some (.struct #[f0, f1]) ∧ (f0.type = 9 ∧ f0.offset = 0 ∧ f0.name ≠ "_") ∧ (f1.type = 2 ∧ f1.offset = 1 ∧ f1.name ≠ "_") := ⟨_, _, Try.underlying23, ⟨rfl, rfl, by decide⟩, ⟨rfl, rfl, by decide⟩⟩
theorem neq_dot (s t : ByteArray) (n m : Int) (w : World) : (binOp .neq 23 (.agg #[.string s, .int .i64 n]) (.agg #[.string t, .int .i64 m])).run Try.prog w = .ok (.bool (!(decide (s = t) && decide (n = m)))) w := by
  obtain ⟨f0, f1, hu, ⟨h0, o0, b0⟩, ⟨h1, o1, b1⟩⟩ := fields24
  have hf : Try.prog.fieldsOf 23 = #[f0, f1] := by unfold Program.fieldsOf; rw [hu]
  rw [run_neq_struct, run_equalIn_struct (P := Try.prog) w 9999 23 _ _ (by rw [hf]; exact hu) (by kernel_rfl), hf]
  simp [Op.eqFields, h0, h1, o0, o1, b0, b1, go_sem, eq_str]
  by_cases e : s = t <;> by_cases e2 : n = m <;> simp [e, e2]
theorem guard24 : Try.prog.eqGuardType Try.prog.depth 23 = false := by kernel_rfl
theorem same_drop {α : Type} [DecidableEq α] {a b : List α} {j : Nat} {d e : α} (hj : j < a.length) (hd : a[j]'hj = d) (hj' : j < b.length) (he : b[j]'hj' = e) : decide (a.drop j = b.drop j) = (decide (d = e) && decide (a.drop (j + 1) = b.drop (j + 1))) := by
  rw [List.drop_eq_getElem_cons hj, hd, List.drop_eq_getElem_cons hj', he]
  simp
set_option maxRecDepth 100000 in
set_option maxHeartbeats 3200000 in
theorem same_any {A A2 : Option Addr} {a b : List D} (c c2 : Nat) {w : World} (hra : RowD w w.heap.size A a) (hla : a.length ≤ 10000000000000) (hrb : RowD w w.heap.size A2 b) (hlb : b.length ≤ 10000000000000) : Calls Try.prog 25 #[.slice A a.length c, .slice A2 b.length c2] w fun e w' => e = .returned (.bool (decide (a = b))) ∧ Below w.heap.size w w' := by
  by_cases hln : a.length = b.length
  · obtain ⟨L, hL⟩ : ∃ L, a.length = L := ⟨_, rfl⟩
    rw [← hln, hL]
    have hLb : b.length = L := by rw [← hln, hL]
    obtain ⟨V, hV⟩ : ∃ V, decide (a = b) = V := ⟨_, rfl⟩
    rw [hV]
    have hL64 : L ≤ 10000000000000 := by omega
    have HV := Lib.hid hV
    have HA := Lib.hid hra
    have HB := Lib.hid hrb
    have HL := Lib.hid (And.intro hL hLb)
    clear hV hra hrb hla hlb hln hL hLb
    go_enter Try.func25, Try.ntmps25
    go_wp2
    go_loopg [5] L (fun k i wr => ∃ (j : Nat), j ≤ L ∧ k = L - j ∧ i = .int .i64 j ∧ Hid (decide (a.drop j = b.drop j) = V) ∧ Below w.heap.size w wr)
    case atStart => exact ⟨0, by omega, by omega, rfl, HV.out, Below.refl _ _⟩
    case round =>
      obtain ⟨j, hj, hgk, rfl, hat, hbw⟩ := hrel
      have HBW := Lib.hid hbw
      have HGK := Lib.hid hgk; clear hgk
      by_cases hlt : j < L
      · have hlt1 : j < a.length := by rw [HL.out.1]; exact hlt
        have hlt2 : j < b.length := by rw [HL.out.2]; exact hlt
        obtain ⟨b1, o1, rfl, hbs1, c0, c1⟩ := HA.out.at j hlt1
        obtain ⟨b2, o2, rfl, hbs2, d0, d1⟩ := HB.out.at j hlt2
        obtain ⟨⟨s, n⟩, hd⟩ : ∃ d, a[j]'hlt1 = d := ⟨_, rfl⟩
        obtain ⟨⟨t, m⟩, he⟩ : ∃ d, b[j]'hlt2 = d := ⟨_, rfl⟩
        rw [hd] at c0 c1
        rw [he] at d0 d1
        have g0 := (hbw.cell hbs1).trans c0
        have g1 := (hbw.cell (p := ⟨b1, o1 + j * 2 + 1, none⟩) hbs1).trans c1
        have g2 := (hbw.cell hbs2).trans d0
        have g3 := (hbw.cell (p := ⟨b2, o2 + j * 2 + 1, none⟩) hbs2).trans d1
        simp only at g0 g1 g2 g3
        clear c0 c1 d0 d1 hbw
        have hk := Lib.hid (same_drop hlt1 hd hlt2 he)
        obtain ⟨E, hE⟩ : ∃ E, decide (((s, n) : D) = (t, m)) = E := ⟨_, rfl⟩
        have hE1 : (decide (s = t) && decide (n = m)) = E := by rw [← hE]; simp [Prod.mk.injEq]
        have hq : ∀ wx, (binOp .neq 23 (.agg #[.string s, .int .i64 n]) (.agg #[.string t, .int .i64 m])).run Try.prog wx = .ok (.bool (!E)) wx := fun wx => by rw [← hE1]; exact neq_dot s t n m wx
        have hgd := guard24
        clear hE1 hd he
        cases E with
        | true =>
          have hf := Lib.hid (show decide (a.drop (j + 1) = b.drop (j + 1)) = V by rw [← hat.out, hk.out, hE]; rfl)
          clear hE
          go_upto_region 6 with fail
          go_quiet (fail)
          go_wp2
          go_roundg (L - (j + 1))
          case rel => exact ⟨j + 1, by omega, rfl, by go_num, hf, below_drewN HBW.out _⟩
          case measure => have := HGK.out; omega
        | false =>
          have hf := Lib.hid (show V = false by rw [← hat.out, hk.out, hE]; rfl)
          clear hE
          go_upto_region 6 with fail
          go_quiet (fail)
          go_wp2
          go_ret
          exact ⟨ret_bool (by rw [hf.out]), below_drewN HBW.out _⟩
      · have hin : j = L := by omega
        subst hin
        have hf := Lib.hid (show V = true by rw [← hat.out, List.drop_eq_nil_of_le (by have := HL.out.1; omega), List.drop_eq_nil_of_le (by have := HL.out.2; omega)]; simp)
        go_wp2
        go_ret
        exact ⟨ret_bool hf.out.symm, hbw⟩
  · have hf := Lib.hid (show decide (a = b) = false by simp; intro h; exact hln (by rw [h]))
    obtain ⟨L, hL⟩ : ∃ L, a.length = L := ⟨_, rfl⟩
    obtain ⟨M, hM⟩ : ∃ L, b.length = L := ⟨_, rfl⟩
    rw [hL, hM] at hln ⊢
    have hne : (((L : Nat) : Int) != ((M : Nat) : Int)) = true := by simp; omega
    clear hL hM hln
    go_enter Try.func25, Try.ntmps25
    go_wp2
    go_ret
    exact ⟨ret_bool hf.out.symm, Below.refl _ _⟩
end Go.Proofs.Ytdffifkleaekhaa.V
