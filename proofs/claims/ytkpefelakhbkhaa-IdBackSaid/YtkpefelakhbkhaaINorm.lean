/-
  The reference's within, tree, Norm.
-/
import Derived.Test.YtkpefelakhbkhaaIRanges
namespace Go.Proofs.Ytkpefelakhbkhaa.I
open Go.RowKit

theorem RowR.at {w : World} {A : Option Addr} {l : List (Nat × Nat)} (h : RowR w w.heap.size A l) (j : Nat) (hj : j < l.length) : ∃ b off, A = some ⟨b, off, none⟩ ∧ b < w.heap.size ∧ Hid (∀ W, Below w.heap.size w W → W.cell? ⟨b, off + j * 2, none⟩ = some (.int .u64 ((l[j]'hj).1 : Int)) ∧ W.cell? ⟨b, off + j * 2 + 1, none⟩ = some (.int .u64 ((l[j]'hj).2 : Int))) := by
  obtain ⟨b, off, e, hb, hc⟩ := h (by omega)
  obtain ⟨h1, h2⟩ := hc j _ (List.getElem?_eq_getElem hj)
  exact ⟨b, off, e, hb, fun W hW => ⟨(hW.cell hb).trans h1, (hW.cell hb).trans h2⟩⟩

set_option maxRecDepth 100000 in
set_option maxHeartbeats 3200000 in
theorem within_any (A : Option Addr) (c : Nat) (l : List (Nat × Nat)) (a n : Nat) (w : World) (hr : RowR w w.heap.size A l) (hl : l.length ≤ 1000000) (hv : ∀ r ∈ l, r.1 ≤ 1000000000000 ∧ r.2 ≤ 1000000000000) (ha : a + n ≤ 1000000000000) :
    Calls Try.prog 64 #[.slice A l.length c, .int .u64 (a : Int), .int .u64 (n : Int)] w fun e w' => ∃ A' c', e = .returned (.slice A' (withinL l a n).length c') ∧ GrR w' w.heap.size A' c' (withinL l a n) ∧ Below w.heap.size w w' := by
  have HR := Lib.hid hr
  clear hr
  go_enter Try.func64, Try.ntmps64
  go_wp2
  go_loopg [7, 8] l.length (fun k o i wr => ∃ (j : Nat) (L : List (Nat × Nat)) (B : Option Addr) (d : Nat), j ≤ l.length ∧ k = l.length - j ∧ i = .int .i64 j ∧ o = .slice B L.length d ∧ Hid (L = withinL (l.take j) a n) ∧ L.length ≤ j ∧ Hid (GrR wr w.heap.size B d L) ∧ Hid (Below w.heap.size w wr))
  case atStart => exact ⟨0, [], none, 0, by omega, by omega, rfl, rfl, by show _ = _; simp [withinL], by simp, GrR.nil _ _, Below.refl _ _⟩
  case round =>
    obtain ⟨j, L, B, d, hj, hgk, rfl, rfl, hL, hLj, hG, hB⟩ := hrel
    have HGK := Lib.hid hgk; clear hgk
    by_cases hlt : j < l.length
    · obtain ⟨b, off, rfl, hb, F1⟩ := HR.out.at j hlt
      obtain ⟨hv1, hv2⟩ := hv _ (List.getElem_mem hlt)
      have HT : Hid (withinL (l.take (j + 1)) a n = withinL (l.take j) a n ++ (if (cutR (l[j]'hlt) a n).1 < (cutR (l[j]'hlt) a n).2 then [cutR (l[j]'hlt) a n] else [])) := by
        show _ = _
        rw [List.take_succ_eq_append_getElem hlt]
        unfold withinL
        rw [List.map_append, List.filter_append]
        congr 1
        by_cases h : (cutR (l[j]'hlt) a n).1 < (cutR (l[j]'hlt) a n).2 <;> simp [h]
      obtain ⟨x, hx⟩ : ∃ x, (l[j]'hlt).1 = x := ⟨_, rfl⟩
      obtain ⟨y, hy⟩ : ∃ y, (l[j]'hlt).2 = y := ⟨_, rfl⟩
      have hcut : cutR (l[j]'hlt) a n = (max x a, min y (a + n)) := by unfold cutR; rw [hx, hy]
      simp only [hx, hy] at F1 hv1 hv2
      rw [hcut] at HT
      obtain ⟨f, hf⟩ : ∃ f, max x a = f := ⟨_, rfl⟩
      obtain ⟨t, ht⟩ : ∃ t, min y (a + n) = t := ⟨_, rfl⟩
      rw [hf, ht] at HT
      simp only at HT
      have hwan : IntKind.u64.wrap ((a : Int) + (n : Int)) = (a : Int) + (n : Int) := by rw [IntKind.wrap_u64]; omega
      have hmx : (if x < a then (a : Int) else (x : Int)) = (f : Int) := by rw [← hf]; split <;> omega
      have hmn : (if (a : Int) + (n : Int) < (y : Int) then (a : Int) + (n : Int) else (y : Int)) = (t : Int) := by rw [← ht]; split <;> omega
      clear hcut hx hy hf ht
      go_wp2
      refine wp_region_held_drew (S := fun W => Below w.heap.size w W) (by kernel_rfl) (hB.out.drew) (fun hS => ?_)
      refine wpAnyH_take (i := 0) (v := ?_) rfl (by kernel_rfl) (by kernel_rfl) (by kernel_rfl) (fun _ _ _ h => h) (Yields.yieldsIf (Or.inl ⟨by kernel_rfl, ?_⟩)) hS ?_
      rotate_left
      · first | (intro w; go_simp; done) | (intro w; go_simp; with_reducible rfl)
      refine wpAnyH_take (i := 1) (v := ?_) rfl (by kernel_rfl) (by kernel_rfl) (by kernel_rfl) (fun _ _ _ h => h) (Yields.yieldsIf (Or.inl ⟨by kernel_rfl, ?_⟩)) hS ?_
      rotate_left
      · first | (intro w; go_simp; done) | (intro w; go_simp; with_reducible rfl)
      refine wpAnyH_take (i := 2) (v := ?_) rfl (by kernel_rfl) (by kernel_rfl) (by kernel_rfl) (fun _ _ _ h => h) (Yields.yieldsIf (Or.inl ⟨by kernel_rfl, ?_⟩)) hS ?_
      rotate_left
      · first | (intro w; go_simp; done) | (intro w; go_simp; with_reducible rfl)
      refine wpAnyH_take (i := 3) (v := ?_) rfl (by kernel_rfl) (by kernel_rfl) (by kernel_rfl) (fun _ _ _ h => h) (Yields.yieldsIf (Or.inl ⟨by kernel_rfl, ?_⟩)) hS ?_
      rotate_left
      · first | (intro w; go_simp; done) | (intro w; go_simp; with_reducible rfl)
      refine wpAnyH_take (i := 4) (v := ?_) rfl (by kernel_rfl) (by kernel_rfl) (by kernel_rfl) (fun _ _ _ h => h) (Or.inl ⟨by kernel_rfl, fun W hW => ?_⟩) hS ?_
      rotate_left
      · obtain ⟨f0, f1⟩ := F1.out W hW
        first | (go_simp; done) | (go_simp; with_reducible rfl)
      refine wpAnyH_take (i := 5) (v := ?_) rfl (by kernel_rfl) (by kernel_rfl) (by kernel_rfl) (fun _ _ _ h => h) (Yields.yieldsIf (Or.inl ⟨by kernel_rfl, ?_⟩)) hS ?_
      rotate_left
      · first | (intro w; go_simp; done) | (intro w; go_simp; with_reducible rfl)
      refine wpAnyH_take (i := 6) (v := ?_) rfl (by kernel_rfl) (by kernel_rfl) (by kernel_rfl) (fun _ _ _ h => h) (Yields.yieldsIf (Or.inl ⟨by kernel_rfl, ?_⟩)) hS ?_
      rotate_left
      · first | (intro w; go_simp; done) | (intro w; go_simp; with_reducible rfl)
      refine wpAnyH_take (i := 7) (v := ?_) rfl (by kernel_rfl) (by kernel_rfl) (by kernel_rfl) (fun _ _ _ h => h) (Yields.yieldsIf (Or.inl ⟨by kernel_rfl, ?_⟩)) hS ?_
      rotate_left
      · first | (intro w; go_simp; done) | (intro w; go_simp; with_reducible rfl)
      refine wpAnyH_take (i := 8) (v := ?_) rfl (by kernel_rfl) (by kernel_rfl) (by kernel_rfl) (fun _ _ _ h => h) (Yields.yieldsIf (Or.inl ⟨by kernel_rfl, ?_⟩)) hS ?_
      rotate_left
      · first | (intro w; go_simp; done) | (intro w; go_simp; with_reducible rfl)
      refine wpAnyH_take (i := 9) (v := ?_) rfl (by kernel_rfl) (by kernel_rfl) (by kernel_rfl) (fun _ _ _ h => h) (Yields.yieldsIf (Or.inl ⟨by kernel_rfl, ?_⟩)) hS ?_
      rotate_left
      · first | (intro w; go_simp; done) | (intro w; go_simp; with_reducible rfl)
      refine wpAnyH_take (i := 10) (v := ?_) rfl (by kernel_rfl) (by kernel_rfl) (by kernel_rfl) (fun _ _ _ h => h) (Yields.yieldsIf (Or.inl ⟨by kernel_rfl, ?_⟩)) hS ?_
      rotate_left
      · first | (intro w; go_simp; done) | (intro w; go_simp; with_reducible rfl)
      refine wpAnyH_take (i := 11) (v := ?_) rfl (by kernel_rfl) (by kernel_rfl) (by kernel_rfl) (fun _ _ _ h => h) (Or.inl ⟨by kernel_rfl, fun W hW => ?_⟩) hS ?_
      rotate_left
      · obtain ⟨f0, f1⟩ := F1.out W hW
        first | (go_simp; done) | (go_simp; with_reducible rfl)
      refine wpAnyH_take (i := 12) (v := ?_) rfl (by kernel_rfl) (by kernel_rfl) (by kernel_rfl) (fun _ _ _ h => h) (Yields.yieldsIf (Or.inl ⟨by kernel_rfl, ?_⟩)) hS ?_
      rotate_left
      · first | (intro w; go_simp; done) | (intro w; go_simp; with_reducible rfl)
      refine wpAnyH_take (i := 13) (v := ?_) rfl (by kernel_rfl) (by kernel_rfl) (by kernel_rfl) (fun _ _ _ h => h) (Yields.yieldsIf (Or.inl ⟨by kernel_rfl, ?_⟩)) hS ?_
      rotate_left
      · first | (intro w; go_simp; done) | (intro w; go_simp; with_reducible rfl)
      refine wpAnyH_take (i := 14) (v := ?_) rfl (by kernel_rfl) (by kernel_rfl) (by kernel_rfl) (fun _ _ _ h => h) (Yields.yieldsIf (Or.inl ⟨by kernel_rfl, ?_⟩)) hS ?_
      rotate_left
      · first | (intro w; go_simp; done) | (intro w; go_simp; with_reducible rfl)
      refine wpAnyH_take (i := 15) (v := ?_) rfl (by kernel_rfl) (by kernel_rfl) (by kernel_rfl) (fun _ _ _ h => h) (Yields.yieldsIf (Or.inl ⟨by kernel_rfl, ?_⟩)) hS ?_
      rotate_left
      · first | (intro w; go_simp; done) | (intro w; go_simp; with_reducible rfl)
      refine wpAnyH_take (i := 16) (v := ?_) rfl (by kernel_rfl) (by kernel_rfl) (by kernel_rfl) (fun _ _ _ h => h) (Yields.yieldsIf (Or.inl ⟨by kernel_rfl, ?_⟩)) hS ?_
      rotate_left
      · first | (intro w; go_simp; done) | (intro w; go_simp; with_reducible rfl)
      refine wpAnyH_ready (rs := [17]) (by kernel_rfl) (by simp) ?_
      refine AllReadyH.cons rfl (fun K hK => ?_) AllReadyH.nil
      go_simp
      refine hK.out _ _ ((hB.out.alloc hB.out.size _).drew) (fun hS => ?_)
      clear hK K
      refine wpAnyH_ready (rs := [18]) (by kernel_rfl) (by simp) ?_
      refine AllReadyH.cons rfl (fun K hK => ?_) AllReadyH.nil
      go_simp
      have hS2 : Below w.heap.size w (wr.alloc (.cells #[.int .u64 (f : Int), .int .u64 (t : Int)] 62)).drew := (hB.out.alloc hB.out.size _).drew
      refine hK.out _ _ hS2 (fun hS => ?_)
      clear hK K hS2
      refine wpAnyH_done (by kernel_rfl) ?_ _
      have hG5 : GrR (wr.alloc (.cells #[.int .u64 (f : Int), .int .u64 (t : Int)] 62)).drew w.heap.size B d L := hG.out.below (((Below.refl _ wr).alloc (Nat.le_refl _) _).drew) (Nat.le_refl _)
      have c0 : (wr.alloc (.cells #[.int .u64 (f : Int), .int .u64 (t : Int)] 62)).drew.cell? ⟨wr.heap.size, 0, none⟩ = some (.int .u64 (f : Int)) := by simp [go_sem]
      have c1 : (wr.alloc (.cells #[.int .u64 (f : Int), .int .u64 (t : Int)] 62)).drew.cell? ⟨wr.heap.size, 1, none⟩ = some (.int .u64 (t : Int)) := by simp [go_sem]
      have HG5 := Lib.hid hG5
      have HB5 := Lib.hid hS
      clear hG5 hS
      generalize (wr.alloc (.cells #[.int .u64 (f : Int), .int .u64 (t : Int)] 62)).drew = W5 at *
      by_cases hft : f < t
      · rw [if_pos hft, ← hL.out] at HT
        obtain ⟨B6, d6, w6, hap, hg6, hb6, _⟩ := HG5.out.one (f, t) 51 (by omega) HB5.out.size
        have HAP := Lib.hid hap
        have HG6 := Lib.hid hg6
        have HB6 : Hid (Below w.heap.size w w6) := HB5.out.trans hb6
        clear hap hg6 hb6
        go_wp2_with (at_builtin; refine wpList_append_run rfl _ _ _ _ rfl _ _ rfl rfl HAP.out ?_; clear HAP)
        go_roundg (l.length - (j + 1))
        case measure => have := HGK.out; omega
        case rel => exact ⟨j + 1, L ++ [(f, t)], B6, d6, by omega, rfl, by go_num, by simp, HT.out.symm, by simp; omega, HG6, HB6⟩
      · rw [if_neg hft, List.append_nil, ← hL.out] at HT
        go_wp2
        go_roundg (l.length - (j + 1))
        case measure => have := HGK.out; omega
        case rel => exact ⟨j + 1, L, B, d, by omega, rfl, by go_num, rfl, HT.out.symm, by omega, HG5, HB5⟩
    · obtain rfl : j = l.length := by omega
      have HL : Hid (L = withinL l a n) := by show _ = _; rw [hL.out, List.take_length]
      go_wp2
      go_ret
      refine ⟨B, d, ?_, ?_, hB.out⟩
      · rw [← HL.out]; rfl
      · rw [← HL.out]; exact hG.out
end Go.Proofs.Ytkpefelakhbkhaa.I
