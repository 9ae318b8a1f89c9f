/-
  The reference's Apart.
-/
import Derived.Test.YtkpefelakhbkhaaISum
namespace Go.Proofs.Ytkpefelakhbkhaa.I
open Go.RowKit

def apartR (a b : Option Tr) : Bool := match a, b with
  | some s, some t => !(meetL (ranges s 0 4294967296) (ranges t 0 4294967296))
  | _, _ => false
set_option maxRecDepth 100000 in
set_option maxHeartbeats 1600000 in
theorem rapart_any (o1 : Bool) (k1 : Fo) (A1 : Option Addr) (c1 : Nat) (o2 : Bool) (k2 : Fo) (A2 : Option Addr) (c2 : Nat) (w : World) (h1 : Kd w w.heap.size k1 A1) (h2 : Kd w w.heap.size k2 A2) :
    Calls Try.prog 23 #[tv o1 A1 k1.len c1, tv o2 A2 k2.len c2] w fun e w' => e = .returned (.bool (apartR (treeOf o1 k1) (treeOf o2 k2))) ∧ Below w.heap.size w w' := by
  have hb0 : Below w.heap.size w ((w.alloc (.cells #[.bool o1, .slice A1 k1.len c1] 24)).alloc (.cells #[.bool o2, .slice A2 k2.len c2] 24)) := ((Below.refl _ w).alloc (Nat.le_refl _) _).alloc (by simp) _
  have HP := Lib.hid (box_pair w o1 o2 A1 A2 k1.len k2.len c1 c2)
  have hr1 := fun W h => rRight_any o1 k1 A1 c1 W h
  have hr2 := fun W h => rRight_any o2 k2 A2 c2 W h
  have H1 := Lib.hid h1
  have H2 := Lib.hid h2
  have HI1 : Hid (∀ t, treeOf o1 k1 = some t → InT w w.heap.size t (tv o1 A1 k1.len c1) ∧ t.depth ≤ 32 ∧ t.nodes ≤ 2047) := fun t ht => in_treeOf ht h1
  have HI2 : Hid (∀ t, treeOf o2 k2 = some t → InT w w.heap.size t (tv o2 A2 k2.len c2) ∧ t.depth ≤ 32 ∧ t.nodes ≤ 2047) := fun t ht => in_treeOf ht h2
  have HB0 := Lib.hid hb0
  unfold tv at hr1 hr2 HI1 HI2 ⊢
  obtain ⟨n1, hn1⟩ : ∃ n, k1.len = n := ⟨_, rfl⟩
  obtain ⟨n2, hn2⟩ : ∃ n, k2.len = n := ⟨_, rfl⟩
  obtain ⟨T1, hT1⟩ : ∃ T, treeOf o1 k1 = T := ⟨_, rfl⟩
  obtain ⟨T2, hT2⟩ : ∃ T, treeOf o2 k2 = T := ⟨_, rfl⟩
  simp only [hn1, hn2, hT1, hT2] at hr1 hr2 HP HB0 HI1 HI2 ⊢
  obtain ⟨W0, hW0⟩ : ∃ W0, (w.alloc (.cells #[.bool o1, .slice A1 n1 c1] 24)).alloc (.cells #[.bool o2, .slice A2 n2 c2] 24) = W0 := ⟨_, rfl⟩
  have hs0 : W0.heap.size = w.heap.size + 2 := by rw [← hW0]; simp
  have HW0 := Lib.hid hW0
  have HS0 := Lib.hid hs0
  rw [hW0] at HP HB0
  clear h1 h2 hn1 hn2 hT1 hT2 hb0 hW0 hs0
  go_enter Try.func23, Try.ntmps23
  go_wp2_with fail
  rw [HW0.out]
  refine (hr1 _ (H1.out.up HB0.out)).mono ?_
  rintro e w1 ⟨rfl, hb1⟩
  rw [HS0.out] at hb1
  obtain ⟨⟨m0, m1⟩, m2, m3⟩ := HP.out _ hb1
  have HW1 := Lib.hid hb1
  have hB1 : Below w.heap.size w w1 := HB0.out.trans (hb1.mono (by omega))
  have hs1 : w.heap.size + 2 ≤ w1.heap.size := by have := hb1.size; have := HS0.out; omega
  clear hb1 hr1
  go_wp2_with fail
  refine (hr2 _ (H2.out.up hB1)).mono ?_
  rintro e w2 ⟨rfl, hb2⟩
  have HW2 : Hid (Below (w.heap.size + 2) W0 w2) := HW1.out.trans (hb2.mono hs1)
  have HB2 : Hid (Below w.heap.size w w2) := HB0.out.trans (HW2.out.mono (by omega))
  clear hb2 hr2 m0 m1 m2 m3 hB1 hs1
  obtain ⟨⟨m0, m1⟩, m2, m3⟩ := HP.out _ HW2.out
  cases T1 with
  | none =>
    simp only [Option.isSome_none]
    go_wp2
    go_quiet (fail)
    have HB3 : Hid (Below w.heap.size w (w2.drewN nq)) := below_drewN HB2.out nq
    generalize w2.drewN nq = w3 at *
    go_wp2
    go_ret
    exact ⟨rfl, HB3.out⟩
  | some s =>
    cases T2 with
    | none =>
      simp only [Option.isSome_none, Option.isSome_some]
      go_wp2
      go_quiet (fail)
      have HB3 : Hid (Below w.heap.size w (w2.drewN nq)) := below_drewN HB2.out nq
      generalize w2.drewN nq = w3 at *
      go_wp2
      go_ret
      exact ⟨rfl, HB3.out⟩
    | some t =>
      simp only [Option.isSome_some]
      obtain ⟨i1, hd1, hnn1⟩ := HI1.out s rfl
      obtain ⟨i2, hd2, hnn2⟩ := HI2.out t rfl
      have hlen1 : (ranges s 0 4294967296).length ≤ 2047 := Nat.le_trans (ranges_len s 32 0) hnn1
      have hlen2 : (ranges t 0 4294967296).length ≤ 2047 := Nat.le_trans (ranges_len t 32 0) hnn2
      have hv1 : ∀ r ∈ ranges s 0 4294967296, r.1 ≤ r.2 ∧ r.2 ≤ 1000000000000 := fun r hr => by
        have h1 := ranges_in s 32 0 hd1 r hr
        have h2 := ranges_up s _ _ r hr
        have e3 : (2 : Nat) ^ 32 = 4294967296 := rfl
        omega
      have hv2 : ∀ r ∈ ranges t 0 4294967296, r.1 ≤ r.2 ∧ r.2 ≤ 1000000000000 := fun r hr => by
        have h1 := ranges_in t 32 0 hd2 r hr
        have h2 := ranges_up t _ _ r hr
        have e3 : (2 : Nat) ^ 32 = 4294967296 := rfl
        omega
      go_wp2
      refine wp_region_held_drew (S := fun W => Below (w.heap.size + 2) W0 W) (by kernel_rfl) (HW2.out.drew) (fun hS => ?_)
      refine wpAnyH_take (i := 0) (v := ?_) rfl (by kernel_rfl) (by kernel_rfl) (by kernel_rfl) (fun _ _ _ h => h) (Yields.yieldsIf (Or.inl ⟨by kernel_rfl, ?_⟩)) hS ?_
      rotate_left
      · first | (intro w; go_simp; done) | (intro w; go_simp; with_reducible rfl)
      refine wpAnyH_take (i := 1) (v := ?_) rfl (by kernel_rfl) (by kernel_rfl) (by kernel_rfl) (fun _ _ _ h => h) (Yields.yieldsIf (Or.inl ⟨by kernel_rfl, ?_⟩)) hS ?_
      rotate_left
      · first | (intro w; go_simp; done) | (intro w; go_simp; with_reducible rfl)
      refine wpAnyH_take (i := 2) (v := ?_) rfl (by kernel_rfl) (by kernel_rfl) (by kernel_rfl) (fun _ _ _ h => h) (Yields.yieldsIf (Or.inl ⟨by kernel_rfl, ?_⟩)) hS ?_
      rotate_left
      · first | (intro w; go_simp; done) | (intro w; go_simp; with_reducible rfl)
      refine wpAnyH_take (i := 3) (v := ?_) rfl (by kernel_rfl) (by kernel_rfl) (by kernel_rfl) (fun _ _ _ h => h) (Yields.yieldsIf (Or.inl ⟨by kernel_rfl, ?_⟩)) hS ?_
      rotate_left
      · first | (intro w; go_simp; done) | (intro w; go_simp; with_reducible rfl)
      refine wpAnyH_take (i := 4) (v := ?_) rfl (by kernel_rfl) (by kernel_rfl) (by kernel_rfl) (fun _ _ _ h => h) (Yields.yieldsIf (Or.inl ⟨by kernel_rfl, ?_⟩)) hS ?_
      rotate_left
      · first | (intro w; go_simp; done) | (intro w; go_simp; with_reducible rfl)
      refine wpAnyH_take (i := 5) (v := ?_) rfl (by kernel_rfl) (by kernel_rfl) (by kernel_rfl) (fun _ _ _ h => h) (Or.inl ⟨by kernel_rfl, fun W hW => ?_⟩) hS ?_
      rotate_left
      · obtain ⟨⟨f0, f1⟩, f2, f3⟩ := HP.out W hW
        first | (go_simp; done) | (go_simp; with_reducible rfl)
      refine wpAnyH_take (i := 7) (v := ?_) rfl (by kernel_rfl) (by kernel_rfl) (by kernel_rfl) (fun _ _ _ h => h) (Or.inl ⟨by kernel_rfl, fun W hW => ?_⟩) hS ?_
      rotate_left
      · obtain ⟨⟨f0, f1⟩, f2, f3⟩ := HP.out W hW
        first | (go_simp; done) | (go_simp; with_reducible rfl)
      refine wpAnyH_ready (rs := [6]) (by kernel_rfl) (by simp) ?_
      refine AllReadyH.cons rfl (fun K hK => ?_) AllReadyH.nil
      go_simp
      go_wp2_with (go_at_call 38; refine (means_any s _ _ hd1 hnn1 (i1.up (HB0.out.trans (hS.mono (by omega))))).mono ?_; rintro e w3 ⟨B3, d3, rfl, hg3, hb3, _⟩)
      have hS3 : Below (w.heap.size + 2) W0 w3 := hS.trans (hb3.mono (by have := hS.size; have := HS0.out; omega))
      have HG3 := Lib.hid hg3
      clear hb3 hg3
      refine hK.out _ _ hS3 (fun hS => ?_)
      clear hK K hS3
      refine wpAnyH_ready (rs := [8]) (by kernel_rfl) (by simp) ?_
      refine AllReadyH.cons rfl (fun K hK => ?_) AllReadyH.nil
      go_simp
      go_wp2_with (go_at_call 38; refine (means_any t _ _ hd2 hnn2 (i2.up (HB0.out.trans (hS.mono (by omega))))).mono ?_; rintro e w4 ⟨B4, d4, rfl, hg4, hb4, _⟩)
      have hS4 : Below (w.heap.size + 2) W0 w4 := hS.trans (hb4.mono (by have := hS.size; have := HS0.out; omega))
      have hc5 := meet_any B3 d3 _ B4 d4 _ w4 (HG3.out.below hb4 (Nat.le_refl _)).row (by omega) hv1 hg4.row (by omega) (fun r hr => by have := hv2 r hr; omega)
      clear hb4 hg4
      refine hK.out _ _ hS4 (fun hS => ?_)
      clear hK K hS4
      refine wpAnyH_ready (rs := [9]) (by kernel_rfl) (by simp) ?_
      refine AllReadyH.cons rfl (fun K hK => ?_) AllReadyH.nil
      go_simp
      go_wp2_with (go_at_call 46; refine (hc5).mono ?_; rintro e w5 ⟨rfl, hb5⟩)
      have hS5 : Below (w.heap.size + 2) W0 w5 := hS.trans (hb5.mono (by have := hS.size; have := HS0.out; omega))
      clear hb5
      refine hK.out _ _ hS5 (fun hS => ?_)
      clear hK K hS5
      refine wpAnyH_take (i := 10) (v := ?_) rfl (by kernel_rfl) (by kernel_rfl) (by kernel_rfl) (fun _ _ _ h => h) (Yields.yieldsIf (Or.inl ⟨by kernel_rfl, ?_⟩)) hS ?_
      rotate_left
      · first | (intro w; go_simp; done) | (intro w; go_simp; with_reducible rfl)
      refine wpAnyH_take (i := 11) (v := ?_) rfl (by kernel_rfl) (by kernel_rfl) (by kernel_rfl) (fun _ _ _ h => h) (Yields.yieldsIf (Or.inl ⟨by kernel_rfl, ?_⟩)) hS ?_
      rotate_left
      · first | (intro w; go_simp; done) | (intro w; go_simp; with_reducible rfl)
      refine wpAnyH_take (i := 12) (v := ?_) rfl (by kernel_rfl) (by kernel_rfl) (by kernel_rfl) (fun _ _ _ h => h) (Yields.yieldsIf (Or.inl ⟨by kernel_rfl, ?_⟩)) hS ?_
      rotate_left
      · first | (intro w; go_simp; done) | (intro w; go_simp; with_reducible rfl)
      refine wpAnyH_done (by kernel_rfl) ?_ _
      have HB9 : Hid (Below w.heap.size w w5) := HB0.out.trans (hS.mono (by omega))
      clear hS
      go_wp2
      go_ret
      exact ⟨rfl, HB9.out⟩
end Go.Proofs.Ytkpefelakhbkhaa.I
