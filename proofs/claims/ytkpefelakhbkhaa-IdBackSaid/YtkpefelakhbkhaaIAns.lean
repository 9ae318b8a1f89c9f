/-
  Answers with an error's number; the program's Norm.
-/
import Derived.Test.YtkpefelakhbkhaaINormP
import Derived.Test.YtkpefelakhbkhaaISame
namespace Go.Proofs.Ytkpefelakhbkhaa.I
open Go.RowKit

/-- A tree and an error's number. -/
def Ans (r : Tr × Int) (w : World) (e : Ending) (w' : World) : Prop := ∃ v, e = .returned (.tuple #[v, .int .i64 r.2]) ∧ InT w' w'.heap.size r.1 v ∧ Below w.heap.size w w'
def normR : Option Tr → Tr × Int
  | some t => (t.norm, 0)
  | none => (.leaf false, 2)
theorem zero_in (w : World) (B : Nat) : InT w B (.leaf false) (tv false none 0 0) := ⟨none, 0, rfl⟩
theorem NormR.ans {o : Bool} {ks : Fo} {w w' : World} {e : Ending} (h : NormR o ks w e w') : Ans (normR (treeOf o ks)) w e w' := by
  obtain ⟨h1, hb⟩ := h
  rcases h1 with ⟨t, v, ht, rfl, hin⟩ | ⟨ht, rfl⟩
  · rw [ht]; exact ⟨v, rfl, hin, hb⟩
  · rw [ht]; exact ⟨_, rfl, zero_in _ _, hb⟩
theorem Ans.form {r : Tr × Int} {w w' : World} {e : Ending} (h : Ans r w e w') : ∃ o A n c, e = .returned (.tuple #[tv o A n c, .int .i64 r.2]) ∧ InT w' w'.heap.size r.1 (tv o A n c) ∧ Below w.heap.size w w' := by
  obtain ⟨v, rfl, hin, hb⟩ := h
  obtain ⟨o, A, n, c, rfl⟩ := hin.form
  exact ⟨o, A, n, c, rfl, hin, hb⟩

set_option maxRecDepth 100000 in
set_option maxHeartbeats 1600000 in
theorem pnorm_any (o : Bool) (ks : Fo) (A : Option Addr) (c : Nat) (w : World) (hk : Kd w w.heap.size ks A) : Calls Try.prog 13 #[tv o A ks.len c] w (Ans (normR (treeOf o ks)) w) := by
  have HN := Lib.hid (NB.start w o A ks.len c)
  have hc1 := right_any o ks A c _ (hk.up HN.out.bel)
  have HK := Lib.hid hk
  unfold tv at hc1 ⊢
  cases ht : treeOf o ks with
  | none =>
    rw [ht] at hc1
    clear hk ht
    go_enter Try.func13, Try.ntmps13
    go_wp2_with fail
    refine hc1.mono ?_
    rintro e w1 ⟨rfl, hb1⟩
    obtain ⟨a0, a1, hbox, hbel, hbig⟩ := HN.out.next hb1 (by simp)
    obtain ⟨u0, u1, ⟨c0, c1'⟩, f0, f1⟩ := hbox.facts
    have HFIN : Hid (∀ u1 u2, InT ((w1.setCell ⟨w.heap.size + 1, 0, none⟩ u1).setCell ⟨w.heap.size + 1, 1, none⟩ u2) ((w1.setCell ⟨w.heap.size + 1, 0, none⟩ u1).setCell ⟨w.heap.size + 1, 1, none⟩ u2).heap.size (.leaf false) (tv false none 0 0) ∧ Below w.heap.size w ((w1.setCell ⟨w.heap.size + 1, 0, none⟩ u1).setCell ⟨w.heap.size + 1, 1, none⟩ u2)) := fun u1 u2 => store_two hbox (zero_in _ _) hbel (by omega)
    clear hb1 hc1 hbox hbel hbig HN
    go_wp2
    refine bodyPost_ret (v := .tuple #[tv false none 0 0, .int .i64 2]) (by simp [results, Try.f13, go_sem, tv, c0, c1']) rfl ?_
    exact ⟨_, rfl, (HFIN.out _ _).1, (HFIN.out _ _).2⟩
  | some t =>
    rw [ht] at hc1
    obtain ⟨hin, _, _⟩ := in_treeOf (c := c) ht hk
    have HIN := Lib.hid hin
    clear hk ht hin
    go_enter Try.func13, Try.ntmps13
    go_wp2_with fail
    refine hc1.mono ?_
    rintro e w1 ⟨rfl, hb1⟩
    have HN1 := Lib.hid (HN.out.next hb1 (by simp))
    have a0 := HN1.out.a0
    have a1 := HN1.out.a1
    have hc2 := norm_any t (tv o A ks.len c) w1 (HIN.out.up HN1.out.bel)
    unfold tv at hc2
    clear hb1 hc1 HN
    go_wp2_with fail
    refine hc2.mono ?_
    rintro e w3 ⟨v3, rfl, ht3, hb3⟩
    obtain ⟨o5, A5, n5, c5, rfl⟩ := ht3.form
    obtain ⟨_, _, hbox, hbel, hbig⟩ := HN1.out.next hb3 HN1.out.big
    obtain ⟨u0, u1, ⟨c0, c1'⟩, f0, f1⟩ := hbox.facts
    have HFIN : Hid (∀ u1 u2, InT ((w3.setCell ⟨w.heap.size + 1, 0, none⟩ u1).setCell ⟨w.heap.size + 1, 1, none⟩ u2) ((w3.setCell ⟨w.heap.size + 1, 0, none⟩ u1).setCell ⟨w.heap.size + 1, 1, none⟩ u2).heap.size t.norm (tv o5 A5 n5 c5) ∧ Below w.heap.size w ((w3.setCell ⟨w.heap.size + 1, 0, none⟩ u1).setCell ⟨w.heap.size + 1, 1, none⟩ u2)) := fun u1 u2 => store_two hbox ht3 hbel (by omega)
    clear hb3 ht3 hc2 hbox hbel hbig a0 a1 HN1
    unfold tv
    go_wp2
    refine bodyPost_ret (v := .tuple #[tv o5 A5 n5 c5, .int .i64 0]) (by simp [results, Try.f13, go_sem, tv, c0, c1']) rfl ?_
    exact ⟨_, rfl, (HFIN.out _ _).1, (HFIN.out _ _).2⟩
end Go.Proofs.Ytkpefelakhbkhaa.I
