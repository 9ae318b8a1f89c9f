/-
  copied, own: copies that share no memory.
-/
import Derived.Test.YtdffifkleaekhaaPMap
import Derived.Laws.AppendOwnNone
namespace Go.Proofs.Ytdffifkleaekhaa.O
open Go.RowKit Go.Proofs.Ytdffifkleaekhaa.V
set_option linter.unusedVariables false
set_option linter.unusedSimpArgs false

theorem rowD_add {w : World} {B : Nat} {a : Addr} {l : List D} (h : RowD w B (some a) l) : ∀ j u, (cellsD l)[j]? = some u → w.cell? (a.add j) = some u := by
  intro j u hu
  have hj : j < l.length * 2 := by have := (List.getElem?_eq_some_iff.1 hu).1; rw [cellsD_length] at this; exact this
  obtain ⟨b, off, e, hb, hc⟩ := h (by omega)
  injection e with e
  subst e
  have ea : (⟨b, off, none⟩ : Addr).add j = ⟨b, off + j, none⟩ := by
    unfold Addr.add; split
    · rename_i h; subst h; simp
    · simp
  rw [ea]
  have hq : j / 2 < l.length := by omega
  obtain ⟨g0, g1⟩ := cellsD_get l (j / 2) _ (List.getElem?_eq_getElem hq)
  obtain ⟨k0, k1⟩ := hc (j / 2) _ (List.getElem?_eq_getElem hq)
  rcases Nat.mod_two_eq_zero_or_one j with hm | hm
  · have e2 : j = j / 2 * 2 := by omega
    rw [e2, g0] at hu
    rw [show off + j = off + j / 2 * 2 by omega, k0]
    exact hu
  · have e2 : j = j / 2 * 2 + 1 := by omega
    rw [e2, g1] at hu
    rw [show off + j = off + j / 2 * 2 + 1 by omega, k1]
    exact hu
/-- append([]Dot(nil), l...). -/
theorem append_copy {A : Option Addr} {c : Nat} {l : List D} {w : World} (hx : Vc.ok ⟨A, c, l⟩ w w.heap.size) (ty : TypeId) (hl : l.length ≤ 10000000) :
    ∃ A' c' w', (Builtin.append_ #[24, 24] ty #[.slice none 0 0, .slice A l.length c]).run Try.prog w = .ok (.slice A' l.length c') w' ∧ GrD w' w.heap.size A' c' l ∧ Below w.heap.size w w' := by
  obtain ⟨i0, hi, hz0, hz1, hz2⟩ := info_parts info24
  cases A with
  | none =>
    have h0 : l.length = 0 := by
      rcases Nat.eq_zero_or_pos l.length with h | h
      · exact h
      · obtain ⟨b, off, e, _⟩ := hx.1 h; cases e
    have hn := List.eq_nil_of_length_eq_zero h0
    subst hn
    refine ⟨none, 0, w, ?_, GrD.nil _ _, Below.refl _ _⟩
    simp [Builtin.append_, run_underlying Try.underlying24, sizeOf, typeInfo, hi, Builtin.lenOf, Builtin.firstCells]
  | some a =>
    obtain ⟨v', w', hrun, ho, hg, hn, hat⟩ := run_append_own_at (P := Try.prog) w w.heap.size 24 ty 23 i0 (.agg #[.string ByteArray.empty, .int .i64 0]) 2 24 Try.underlying24 hi hz0 hz1 hz2 rfl (by decide) _ _ _ (GrD.nil w w.heap.size) a l.length c (cellsD l) (cellsD_length l) (rowD_add hx.1) (oneCell_cellsD l) (by unfold maxLen; simp; omega) (by simp; omega) (Nat.le_refl _)
    have hB : Below w.heap.size w w' := (Below.refl _ w).grown hg (Nat.le_refl _) (fun k e => by simp [Value.ownBlock] at e)
    simp only [List.length_nil, Nat.zero_add] at ho hrun
    rcases ho.2 with ⟨e, h0⟩ | ⟨g', cap', cur, e, _⟩
    · subst e
      rw [h0] at hrun ho ⊢
      refine ⟨none, 0, w', hrun, ?_, hB⟩
      have hn := List.eq_nil_of_length_eq_zero h0
      subst hn
      exact GrD.nil _ _
    · subst e
      refine ⟨_, _, w', hrun, ?_, hB⟩
      unfold GrD
      simpa [cellsD] using ho
/-- What lies apart: in memory that was not there. -/
def Fresh (A : Option Addr) (B : Nat) : Prop := ∀ k, blk A = some k → B ≤ k
/-- .. and lies there. -/
def Lies (A : Option Addr) (B C : Nat) : Prop := ∀ k, blk A = some k → B ≤ k ∧ k < C
theorem Lies.fresh {A : Option Addr} {B C : Nat} (h : Lies A B C) : Fresh A B := fun k hk => (h k hk).1
theorem Lies.mono {A : Option Addr} {B C B' C' : Nat} (h : Lies A B C) (hB : B' ≤ B) (hC : C ≤ C') : Lies A B' C' := fun k hk => ⟨Nat.le_trans hB (h k hk).1, Nat.lt_of_lt_of_le (h k hk).2 hC⟩
theorem GrD.fresh {w : World} {base c : Nat} {A : Option Addr} {l : List D} (h : GrD w base A c l) : Fresh A base := fun k hk => (h.lt k hk).1
set_option maxRecDepth 100000 in
theorem copied_any {A : Option Addr} {c : Nat} {l : List D} {w : World} (hx : Vc.ok ⟨A, c, l⟩ w w.heap.size) (hl : l.length ≤ 10000000) :
    Calls Try.prog 69 #[.slice A l.length c] w fun e w' => (∃ A' c', e = .returned (.slice A' l.length c') ∧ Vc.ok ⟨A', c', l⟩ w' w'.heap.size ∧ Lies A' w.heap.size w'.heap.size) ∧ Below w.heap.size w w' := by
  obtain ⟨A', c', w', hrun, hg, hb⟩ := append_copy hx 24 hl
  have HG := Lib.hid (And.intro (show Lies A' w.heap.size w'.heap.size from GrD.lt hg) (And.intro (GrD.ok hg (by omega)) hb))
  have HRUN := Lib.hid hrun
  clear hg hb hrun
  obtain ⟨L, hL⟩ : ∃ L, l.length = L := ⟨_, rfl⟩
  rw [hL] at HRUN ⊢
  clear hL hl hx
  go_enter Try.func69, Try.ntmps69
  go_wp2_with (at_builtin; refine wpList_append_run rfl _ _ _ _ rfl _ _ rfl rfl HRUN.out ?_; clear HRUN)
  go_ret
  exact ⟨⟨A', c', rfl, HG.out.2.1, HG.out.1⟩, HG.out.2.2⟩
end Go.Proofs.Ytdffifkleaekhaa.O
