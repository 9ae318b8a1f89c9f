/-
  slices.Delete.
-/
import Derived.Test.YtdffifkleaekhaaPDel
import Derived.OrdersHeld
import Derived.Deep.RegionHeld
namespace Go.Proofs.Ytdffifkleaekhaa.O
open Go.RowKit Go.Proofs.Ytdffifkleaekhaa.V
set_option linter.unusedVariables false
set_option linter.unusedSimpArgs false

set_option maxRecDepth 100000 in
set_option maxHeartbeats 3200000 in
theorem delete_any {A : Option Addr} {c base i n J : Nat} {l : List D} {w : World} (h : GrD w base A c l) (hn : l.length = n) (hi : i < n) (hJ : i + 1 = J) (hl : n ≤ 1000000) :
    Calls Try.prog 90 #[.slice A n c, .int .i64 (i : Int), .int .i64 (J : Int)] w fun e w' => e = .returned (.slice A (n - 1) c) ∧ GrD w' base A c (l.eraseIdx i) ∧ But (fun k => blk A = some k) w w' := by
  rcases h.cases with ⟨rfl, rfl, rfl⟩ | ⟨g, cur, rfl, hb, hg, hnc, hcm, hcs, ht⟩
  · simp at hn; omega
  rw [hn] at hnc ht
  have hcm2 : c ≤ 9223372036854775807 := by unfold maxLen at hcm; omega
  obtain ⟨hds, hdt⟩ := delRow_take hn hi hnc hcs ht
  have hr1 : ∀ X c2, (i + 1 = n ∨ X = ⟨g, (i + 1) * 2, none⟩) → (Builtin.append_ #[24, 24] 24 #[.slice (some ⟨g, 0, none⟩) i c, .slice (some X) (n - (i + 1)) c2]).run Try.prog w.drew = .ok (.slice (some ⟨g, 0, none⟩) (n - 1) c) (w.drew.setRow g (delRow cur n i (cellsD (l.drop (i + 1))))) := fun X c2 hX => run_del_append (w := w.drew) hg hn hi hnc hcs ht hX 24
  have hg2 : (w.drew.setRow g (delRow cur n i (cellsD (l.drop (i + 1))))).heap[g]? = some (.cells (delRow cur n i (cellsD (l.drop (i + 1)))) 23 (0, 0)) := setRow_heap w.drew g cur _ 23 _ hg
  have hr2 : ∀ c2, (Builtin.clear_ #[24] 0 #[.slice (some ⟨g, (n - 1) * 2, none⟩) 1 c2]).run Try.prog (w.drew.setRow g (delRow cur n i (cellsD (l.drop (i + 1))))) = .ok (.tuple #[]) ((w.drew.setRow g (delRow cur n i (cellsD (l.drop (i + 1))))).setRow g (delRow2 cur n i l)) := fun c2 => run_del_clear hg2 hn hi hnc hcs ht 0
  have HF : Hid (GrD ((w.drew.setRow g (delRow cur n i (cellsD (l.drop (i + 1))))).setRow g (delRow2 cur n i l)) base (some ⟨g, 0, none⟩) c (l.eraseIdx i) ∧ But (fun k => blk (some (⟨g, 0, none⟩ : Addr)) = some k) w ((w.drew.setRow g (delRow cur n i (cellsD (l.drop (i + 1))))).setRow g (delRow2 cur n i l))) := by
    refine ⟨del_grows (w := w) (setRow_heap _ g _ _ 23 _ hg2) hn hi hb hnc hcm hcs ht, ⟨rfl, rfl, rfl, by simp [World.setRow], fun k hk hx => ?_⟩⟩
    have hne : k ≠ g := fun e => hx (by rw [e]; rfl)
    exact (setRow_other _ g k _ hne).trans (setRow_other _ g k _ hne)
  have HR2 := Lib.hid hr2
  obtain ⟨Wa, hWa⟩ : ∃ Wa, w.drew.setRow g (delRow cur n i (cellsD (l.drop (i + 1)))) = Wa := ⟨_, rfl⟩
  rw [hWa] at HR2 HF
  have HR1 := Lib.hid hr1
  rw [hWa] at HR1
  obtain ⟨Wb, hWb⟩ : ∃ Wb, Wa.setRow g (delRow2 cur n i l) = Wb := ⟨_, rfl⟩
  rw [hWb] at HR2 HF
  clear hr1 hr2 hWa hWb hg2 hds hdt hg hcs ht h
  rw [hJ] at HR1
  have HJ := Lib.hid hJ
  have g0 : (0 : Int) ≤ (i : Int) := by omega
  have g1 : (i : Int) ≤ (J : Int) := by omega
  have g2 : (J : Int) ≤ (n : Int) := by omega
  have g3 : (n : Int) ≤ (c : Int) := by omega
  have g4 : (i : Int) ≤ (c : Int) := by omega
  have g5 : (J : Int) ≤ (c : Int) := by omega
  have g6 : ((i : Int) == (J : Int)) = false := by rw [beq_eq_false_iff_ne]; omega
  have g7 : (((n - 1 : Nat) : Int)) ≤ (n : Int) := by omega
  have g8 : (0 : Int) ≤ ((n - 1 : Nat) : Int) := by omega
  have n1 : n ≤ c := hnc
  have n2 : J ≤ n := by omega
  have n3 : i < c := by omega
  have n4 : n - 1 < c := by omega
  have n5 : n - (n - 1) = 1 := by omega
  have n6 : i ≤ J := by omega
  have n7 : J ≤ c := by omega
  have n8 : i ≤ c := by omega
  have n9 : n - 1 ≤ n := by omega
  have n10 : ¬ n = i := by omega
  have n11 : ¬ c = i := by omega
  have n12 : ¬ c = n - 1 := by omega
  have HNJ : Hid (i + 1 = n ∨ J < c) := by
    show _ ∨ _
    omega
  clear hnc hb hcm hn hl hi hJ
  by_cases hjc : J < c
  · have hcj : ¬ c = J := by omega
    go_enter Try.func90, Try.ntmps90
    go_upto_region 5 with fail
    refine wp_region_held_drew (S := fun W => True) (by kernel_rfl) trivial (fun hS => ?_)
    refine wpAnyH_take (i := 0) (v := ?_) rfl (by kernel_rfl) (by kernel_rfl) (by kernel_rfl) (fun _ _ _ h => h) (Yields.yieldsIf (Or.inl ⟨by kernel_rfl, ?_⟩)) hS ?_
    rotate_left
    · first | (intro w; go_simp; done) | (intro w; go_simp; with_reducible rfl)
    refine wpAnyH_take (i := 1) (v := ?_) rfl (by kernel_rfl) (by kernel_rfl) (by kernel_rfl) (fun _ _ _ h => h) (Yields.yieldsIf (Or.inl ⟨by kernel_rfl, ?_⟩)) hS ?_
    rotate_left
    · first | (intro w; go_simp; done) | (intro w; go_simp; with_reducible rfl)
    refine wpAnyH_take (i := 2) (v := ?_) rfl (by kernel_rfl) (by kernel_rfl) (by kernel_rfl) (fun _ _ _ h => h) (Yields.yieldsIf (Or.inl ⟨by kernel_rfl, ?_⟩)) hS ?_
    rotate_left
    · first | (intro w; go_simp; done) | (intro w; go_simp; with_reducible rfl)
    refine wpAnyH_take (i := 3) (v := ?_) rfl (by kernel_rfl) (by kernel_rfl) (by kernel_rfl) (fun _ _ _ h => h) (Yields.yieldsIf (Or.inl ⟨by kernel_rfl, ?_⟩)) hS ?_
    rotate_left
    · first | (intro w; go_simp; done) | (intro w; go_simp; with_reducible rfl)
    refine wpAnyH_take (i := 4) (v := ?_) rfl (by kernel_rfl) (by kernel_rfl) (by kernel_rfl) (fun _ _ _ h => h) (Yields.yieldsIf (Or.inl ⟨by kernel_rfl, ?_⟩)) hS ?_
    rotate_left
    · first | (intro w; go_simp; done) | (intro w; go_simp; with_reducible rfl)
    refine wpAnyH_take (i := 5) (v := ?_) rfl (by kernel_rfl) (by kernel_rfl) (by kernel_rfl) (fun _ _ _ h => h) (Yields.yieldsIf (Or.inl ⟨by kernel_rfl, ?_⟩)) hS ?_
    rotate_left
    · first | (intro w; go_simp; done) | (intro w; go_simp; with_reducible rfl)
    try go_simp
    refine wpAnyH_ready (rs := [6]) (by kernel_rfl) (by simp) ?_
    refine AllReadyH.cons rfl (fun K hK => ?_) AllReadyH.nil
    have hrun := HR1.out ⟨g, J * 2, none⟩ (c - J) (.inr rfl)
    refine Go.Lib.wp_append_run _ _ _ _ _ rfl _ _ rfl rfl _ _ hrun ?_
    clear hrun
    have hS3 : True := trivial
    refine hK.out _ _ hS3 (fun hS => ?_)
    clear hK K hS3
    refine wpAnyH_take (i := 7) (v := ?_) rfl (by kernel_rfl) (by kernel_rfl) (by kernel_rfl) (fun _ _ _ h => h) (Yields.yieldsIf (Or.inl ⟨by kernel_rfl, ?_⟩)) hS ?_
    rotate_left
    · first | (intro w; go_simp; done) | (intro w; go_simp; with_reducible rfl)
    try go_simp
    refine wpAnyH_done (by kernel_rfl) ?_ _
    have hclr := HR2.out (c - (n - 1))
    go_wp2
    go_ret
    exact ⟨rfl, HF.out⟩
  · have hcj : c = J := by omega
    subst hcj
    go_enter Try.func90, Try.ntmps90
    go_upto_region 5 with fail
    refine wp_region_held_drew (S := fun W => True) (by kernel_rfl) trivial (fun hS => ?_)
    refine wpAnyH_take (i := 0) (v := ?_) rfl (by kernel_rfl) (by kernel_rfl) (by kernel_rfl) (fun _ _ _ h => h) (Yields.yieldsIf (Or.inl ⟨by kernel_rfl, ?_⟩)) hS ?_
    rotate_left
    · first | (intro w; go_simp; done) | (intro w; go_simp; with_reducible rfl)
    refine wpAnyH_take (i := 1) (v := ?_) rfl (by kernel_rfl) (by kernel_rfl) (by kernel_rfl) (fun _ _ _ h => h) (Yields.yieldsIf (Or.inl ⟨by kernel_rfl, ?_⟩)) hS ?_
    rotate_left
    · first | (intro w; go_simp; done) | (intro w; go_simp; with_reducible rfl)
    refine wpAnyH_take (i := 2) (v := ?_) rfl (by kernel_rfl) (by kernel_rfl) (by kernel_rfl) (fun _ _ _ h => h) (Yields.yieldsIf (Or.inl ⟨by kernel_rfl, ?_⟩)) hS ?_
    rotate_left
    · first | (intro w; go_simp; done) | (intro w; go_simp; with_reducible rfl)
    refine wpAnyH_take (i := 3) (v := ?_) rfl (by kernel_rfl) (by kernel_rfl) (by kernel_rfl) (fun _ _ _ h => h) (Yields.yieldsIf (Or.inl ⟨by kernel_rfl, ?_⟩)) hS ?_
    rotate_left
    · first | (intro w; go_simp; done) | (intro w; go_simp; with_reducible rfl)
    refine wpAnyH_take (i := 4) (v := ?_) rfl (by kernel_rfl) (by kernel_rfl) (by kernel_rfl) (fun _ _ _ h => h) (Yields.yieldsIf (Or.inl ⟨by kernel_rfl, ?_⟩)) hS ?_
    rotate_left
    · first | (intro w; go_simp; done) | (intro w; go_simp; with_reducible rfl)
    refine wpAnyH_take (i := 5) (v := ?_) rfl (by kernel_rfl) (by kernel_rfl) (by kernel_rfl) (fun _ _ _ h => h) (Yields.yieldsIf (Or.inl ⟨by kernel_rfl, ?_⟩)) hS ?_
    rotate_left
    · first | (intro w; go_simp; done) | (intro w; go_simp; with_reducible rfl)
    try go_simp
    refine wpAnyH_ready (rs := [6]) (by kernel_rfl) (by simp) ?_
    refine AllReadyH.cons rfl (fun K hK => ?_) AllReadyH.nil
    have hrun := HR1.out ⟨g, 0, none⟩ (c - c) (by rcases HNJ.out with h | h; exact .inl (by have := HJ.out; omega); exact absurd h hjc)
    simp only [Nat.sub_self] at hrun
    rw [show n - c = 0 by omega] at hrun
    refine Go.Lib.wp_append_run _ _ _ _ _ rfl _ _ rfl rfl _ _ hrun ?_
    clear hrun
    have hS3 : True := trivial
    refine hK.out _ _ hS3 (fun hS => ?_)
    clear hK K hS3
    refine wpAnyH_take (i := 7) (v := ?_) rfl (by kernel_rfl) (by kernel_rfl) (by kernel_rfl) (fun _ _ _ h => h) (Yields.yieldsIf (Or.inl ⟨by kernel_rfl, ?_⟩)) hS ?_
    rotate_left
    · first | (intro w; go_simp; done) | (intro w; go_simp; with_reducible rfl)
    try go_simp
    refine wpAnyH_done (by kernel_rfl) ?_ _
    have hclr := HR2.out (c - (n - 1))
    go_wp2
    go_ret
    exact ⟨rfl, HF.out⟩

end Go.Proofs.Ytdffifkleaekhaa.O
