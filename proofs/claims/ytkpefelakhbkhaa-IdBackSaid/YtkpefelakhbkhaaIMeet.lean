/-
  The reference's meet.
-/
import Derived.Test.YtkpefelakhbkhaaIEq
namespace Go.Proofs.Ytkpefelakhbkhaa.I
open Go.RowKit

/-- Do some ranges of two lists meet? -/
def meetR (r : Nat × Nat) (m : List (Nat × Nat)) : Bool := decide (0 < (withinL m r.1 (r.2 - r.1)).length)
def meetL (l m : List (Nat × Nat)) : Bool := l.any fun r => meetR r m

set_option maxRecDepth 100000 in
set_option maxHeartbeats 3200000 in
theorem meet_any (A : Option Addr) (c : Nat) (l : List (Nat × Nat)) (B : Option Addr) (d : Nat) (m : List (Nat × Nat)) (w : World) (hr : RowR w w.heap.size A l) (hl : l.length ≤ 1000000) (hv : ∀ r ∈ l, r.1 ≤ r.2 ∧ r.2 ≤ 1000000000000)
    (hr2 : RowR w w.heap.size B m) (hl2 : m.length ≤ 1000000) (hv2 : ∀ r ∈ m, r.1 ≤ 1000000000000 ∧ r.2 ≤ 1000000000000) :
    Calls Try.prog 46 #[.slice A l.length c, .slice B m.length d] w fun e w' => e = .returned (.bool (meetL l m)) ∧ Below w.heap.size w w' := by
  have HR := Lib.hid hr
  have HR2 := Lib.hid hr2
  have HV2 := Lib.hid hv2
  clear hr hr2 hv2
  go_enter Try.func46, Try.ntmps46
  go_wp2
  go_loopg [5] l.length (fun k i wr => ∃ (j : Nat), j ≤ l.length ∧ k = l.length - j ∧ i = .int .i64 j ∧ Hid (meetL (l.take j) m = false) ∧ Hid (Below w.heap.size w wr))
  case atStart => exact ⟨0, by omega, by omega, rfl, by show _ = _; simp [meetL], Below.refl _ _⟩
  case round =>
    obtain ⟨j, hj, hgk, rfl, hinv, hB⟩ := hrel
    have HGK := Lib.hid hgk; clear hgk
    by_cases hlt : j < l.length
    · obtain ⟨b, off, rfl, hb, F1⟩ := HR.out.at j hlt
      obtain ⟨hv1, hv2⟩ := hv _ (List.getElem_mem hlt)
      have HT : Hid (meetL (l.take (j + 1)) m = meetR (l[j]'hlt) m) := by
        show _ = _
        rw [List.take_succ_eq_append_getElem hlt]
        unfold meetL at hinv ⊢
        rw [List.any_append, hinv.out]; simp
      have HY : Hid (meetR (l[j]'hlt) m = true → meetL l m = true) := fun h => by
        unfold meetL
        exact List.any_eq_true.2 ⟨_, List.getElem_mem hlt, h⟩
      unfold meetR at HT HY
      obtain ⟨x, hx⟩ : ∃ x, (l[j]'hlt).1 = x := ⟨_, rfl⟩
      obtain ⟨y, hy⟩ : ∃ y, (l[j]'hlt).2 = y := ⟨_, rfl⟩
      simp only [hx, hy] at F1 hv1 hv2 HT HY
      have hsub : IntKind.u64.wrap ((y : Int) - (x : Int)) = ((y - x : Nat) : Int) := by rw [IntKind.wrap_u64]; omega
      have hcall := fun W (hW : Below w.heap.size w W) => within_any B d m x (y - x) W (HR2.out.up hW) hl2 HV2.out (by omega)
      obtain ⟨n, hn⟩ : ∃ n, y - x = n := ⟨_, rfl⟩
      obtain ⟨L, hL⟩ : ∃ L, withinL m x n = L := ⟨_, rfl⟩
      simp only [hn, hL] at hsub hcall HT HY
      clear hx hy hn hL
      go_wp2
      refine wp_region_held_drew (S := fun W => Below w.heap.size w W) (by kernel_rfl) (hB.out.drew) (fun hS => ?_)
      refine wpAnyH_take (i := 0) (v := ?_) rfl (by kernel_rfl) (by kernel_rfl) (by kernel_rfl) (fun _ _ _ h => h) (Yields.yieldsIf (Or.inl ⟨by kernel_rfl, ?_⟩)) hS ?_
      rotate_left
      · first | (intro w; go_simp; done) | (intro w; go_simp; with_reducible rfl)
      refine wpAnyH_take (i := 1) (v := ?_) rfl (by kernel_rfl) (by kernel_rfl) (by kernel_rfl) (fun _ _ _ h => h) (Yields.yieldsIf (Or.inl ⟨by kernel_rfl, ?_⟩)) hS ?_
      rotate_left
      · first | (intro w; go_simp; done) | (intro w; go_simp; with_reducible rfl)
      refine wpAnyH_take (i := 2) (v := ?_) rfl (by kernel_rfl) (by kernel_rfl) (by kernel_rfl) (fun _ _ _ h => h) (Yields.yieldsIf (Or.inl ⟨by kernel_rfl, ?_⟩)) hS ?_
      rotate_left
      · first | (intro w; go_simp; done) | (intro w; go_simp; with_reducible rfl)
      refine wpAnyH_take (i := 3) (v := ?_) rfl (by kernel_rfl) (by kernel_rfl) (by kernel_rfl) (fun _ _ _ h => h) (Yields.yieldsIf (Or.inl ⟨by kernel_rfl, ?_⟩)) hS ?_
      rotate_left
      · first | (intro w; go_simp; done) | (intro w; go_simp; with_reducible rfl)
      refine wpAnyH_take (i := 4) (v := ?_) rfl (by kernel_rfl) (by kernel_rfl) (by kernel_rfl) (fun _ _ _ h => h) (Yields.yieldsIf (Or.inl ⟨by kernel_rfl, ?_⟩)) hS ?_
      rotate_left
      · first | (intro w; go_simp; done) | (intro w; go_simp; with_reducible rfl)
      refine wpAnyH_take (i := 5) (v := ?_) rfl (by kernel_rfl) (by kernel_rfl) (by kernel_rfl) (fun _ _ _ h => h) (Or.inl ⟨by kernel_rfl, fun W hW => ?_⟩) hS ?_
      rotate_left
      · obtain ⟨f0, f1⟩ := F1.out W hW
        first | (go_simp; done) | (go_simp; with_reducible rfl)
      refine wpAnyH_take (i := 6) (v := ?_) rfl (by kernel_rfl) (by kernel_rfl) (by kernel_rfl) (fun _ _ _ h => h) (Yields.yieldsIf (Or.inl ⟨by kernel_rfl, ?_⟩)) hS ?_
      rotate_left
      · first | (intro w; go_simp; done) | (intro w; go_simp; with_reducible rfl)
      refine wpAnyH_take (i := 7) (v := ?_) rfl (by kernel_rfl) (by kernel_rfl) (by kernel_rfl) (fun _ _ _ h => h) (Yields.yieldsIf (Or.inl ⟨by kernel_rfl, ?_⟩)) hS ?_
      rotate_left
      · first | (intro w; go_simp; done) | (intro w; go_simp; with_reducible rfl)
      refine wpAnyH_take (i := 8) (v := ?_) rfl (by kernel_rfl) (by kernel_rfl) (by kernel_rfl) (fun _ _ _ h => h) (Yields.yieldsIf (Or.inl ⟨by kernel_rfl, ?_⟩)) hS ?_
      rotate_left
      · first | (intro w; go_simp; done) | (intro w; go_simp; with_reducible rfl)
      refine wpAnyH_take (i := 9) (v := ?_) rfl (by kernel_rfl) (by kernel_rfl) (by kernel_rfl) (fun _ _ _ h => h) (Yields.yieldsIf (Or.inl ⟨by kernel_rfl, ?_⟩)) hS ?_
      rotate_left
      · first | (intro w; go_simp; done) | (intro w; go_simp; with_reducible rfl)
      refine wpAnyH_take (i := 10) (v := ?_) rfl (by kernel_rfl) (by kernel_rfl) (by kernel_rfl) (fun _ _ _ h => h) (Or.inl ⟨by kernel_rfl, fun W hW => ?_⟩) hS ?_
      rotate_left
      · obtain ⟨f0, f1⟩ := F1.out W hW
        first | (go_simp; done) | (go_simp; with_reducible rfl)
      refine wpAnyH_take (i := 11) (v := ?_) rfl (by kernel_rfl) (by kernel_rfl) (by kernel_rfl) (fun _ _ _ h => h) (Yields.yieldsIf (Or.inl ⟨by kernel_rfl, ?_⟩)) hS ?_
      rotate_left
      · first | (intro w; go_simp; done) | (intro w; go_simp; with_reducible rfl)
      refine wpAnyH_take (i := 12) (v := ?_) rfl (by kernel_rfl) (by kernel_rfl) (by kernel_rfl) (fun _ _ _ h => h) (Yields.yieldsIf (Or.inl ⟨by kernel_rfl, ?_⟩)) hS ?_
      rotate_left
      · first | (intro w; go_simp; done) | (intro w; go_simp; with_reducible rfl)
      refine wpAnyH_take (i := 13) (v := ?_) rfl (by kernel_rfl) (by kernel_rfl) (by kernel_rfl) (fun _ _ _ h => h) (Yields.yieldsIf (Or.inl ⟨by kernel_rfl, ?_⟩)) hS ?_
      rotate_left
      · first | (intro w; go_simp; done) | (intro w; go_simp; with_reducible rfl)
      refine wpAnyH_take (i := 14) (v := ?_) rfl (by kernel_rfl) (by kernel_rfl) (by kernel_rfl) (fun _ _ _ h => h) (Yields.yieldsIf (Or.inl ⟨by kernel_rfl, ?_⟩)) hS ?_
      rotate_left
      · first | (intro w; go_simp; done) | (intro w; go_simp; with_reducible rfl)
      refine wpAnyH_take (i := 15) (v := ?_) rfl (by kernel_rfl) (by kernel_rfl) (by kernel_rfl) (fun _ _ _ h => h) (Or.inl ⟨by kernel_rfl, fun W hW => ?_⟩) hS ?_
      rotate_left
      · obtain ⟨f0, f1⟩ := F1.out W hW
        first | (go_simp; done) | (go_simp; with_reducible rfl)
      refine wpAnyH_take (i := 16) (v := ?_) rfl (by kernel_rfl) (by kernel_rfl) (by kernel_rfl) (fun _ _ _ h => h) (Yields.yieldsIf (Or.inl ⟨by kernel_rfl, ?_⟩)) hS ?_
      rotate_left
      · first | (intro w; go_simp; done) | (intro w; go_simp; with_reducible rfl)
      refine wpAnyH_ready (rs := [17]) (by kernel_rfl) (by simp) ?_
      refine AllReadyH.cons rfl (fun K hK => ?_) AllReadyH.nil
      go_simp
      go_wp2_with (go_at_call 64; refine (hcall _ hS).mono ?_; rintro e w2 ⟨A2, c2, rfl, hg2, hbb⟩)
      have hS3 : Below w.heap.size w w2 := hS.trans (hbb.mono hS.size)
      clear hbb hg2
      refine hK.out _ _ hS3 (fun hS => ?_)
      clear hK K hS3
      refine wpAnyH_take (i := 18) (v := ?_) rfl (by kernel_rfl) (by kernel_rfl) (by kernel_rfl) (fun _ _ _ h => h) (Yields.yieldsIf (Or.inl ⟨by kernel_rfl, ?_⟩)) hS ?_
      rotate_left
      · first | (intro w; go_simp; done) | (intro w; go_simp; with_reducible rfl)
      refine wpAnyH_done (by kernel_rfl) ?_ _
      have HB2 : Hid (Below w.heap.size w w2) := hS
      clear hS hcall
      by_cases h0 : 0 < L.length
      · have HYY := Lib.hid (HY.out (decide_eq_true h0))
        go_wp2
        go_ret
        exact ⟨ret_bool HYY.out.symm, HB2.out⟩
      · have HTT := Lib.hid (HT.out.trans (decide_eq_false h0))
        have h00 : ¬ (0 : Int) < (L.length : Int) := by omega
        go_wp2
        go_roundg (l.length - (j + 1))
        case measure => have := HGK.out; omega
        case rel => exact ⟨j + 1, by omega, rfl, by go_num, HTT, HB2⟩
    · obtain rfl : j = l.length := by omega
      have HL : Hid (meetL l m = false) := by show _ = _; have := hinv.out; rwa [List.take_length] at this
      go_wp2
      go_ret
      exact ⟨ret_bool HL.out.symm, hB.out⟩
end Go.Proofs.Ytkpefelakhbkhaa.I
