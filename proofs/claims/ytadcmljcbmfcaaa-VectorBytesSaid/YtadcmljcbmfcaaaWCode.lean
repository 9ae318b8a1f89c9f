/-
  code: a number's bytes in new memory.
-/
import Derived.Test.YtadcmljcbmfcaaaWOwn
namespace Go.Proofs.Ytadcmljcbmfcaaa.Wi
open Go.RowKit

/-- What a call answers that makes bytes. -/
def Made (l : List Nat) (w : World) (e : Ending) (w' : World) : Prop :=
  ∃ A c, e = .returned (.slice A l.length c) ∧ Row w' w'.heap.size A l ∧ Below w.heap.size w w'

theorem be_step (n k j : Nat) (h : j < k) : (List.replicate (k + 1 - j) 0 ++ M.be n j).set (k - j) (n / 256 ^ j % 256) = List.replicate (k + 1 - (j + 1)) 0 ++ M.be n (j + 1) := by
  rw [show k + 1 - j = (k - j) + 1 by omega, show k + 1 - (j + 1) = k - j by omega, List.replicate_succ', List.append_assoc, List.set_append_right _ _ (by simp)]
  simp [M.be]
theorem byte_num (n j : Nat) : (n : Int) / 2 ^ (8 * j) % 256 = ((n / 256 ^ j % 256 : Nat) : Int) := by
  rw [M.p256, show (n : Int) / 2 ^ (8 * j) = ((n / 2 ^ (8 * j) : Nat) : Int) by simp]; omega

set_option maxRecDepth 100000 in
set_option maxHeartbeats 1600000 in
theorem code_any (n : Nat) (w : World) (hn : n < 18446744073709551616) :
    Calls Try.prog 57 #[.int .u64 n] w (Made (M.code n) w) := by
  obtain ⟨V, hV⟩ : ∃ V : Int, (n : Int) = V := ⟨_, rfl⟩
  have HV := Lib.hid hV
  rw [hV]
  clear hV
  have HN := Lib.hid hn
  clear hn
  obtain ⟨k, hk⟩ : ∃ k, M.fol n = k := ⟨_, rfl⟩
  have hk8 : k ≤ 8 := by rw [← hk]; exact M.fol_le n
  have hfol : ∀ w, Calls Try.prog 62 #[.int .u64 V] w fun e w' => e = .returned (.int .i64 k) ∧ w = w' := fun w => by rw [← HV.out, ← hk]; exact following_any n w HN.out
  have HK := Lib.hid hk
  clear hk
  have hmk := fun (W : World) => run_make_row' (P := Try.prog) 43 5 (.int .u8 0) 1 Try.underlying43 info5 rfl .i64 .i64 (k + 1) (by omega) (by omega) W
  simp only [made_zero] at hmk
  have ec : ((k + 1 : Nat) : Int) = 1 + (k : Int) := by omega
  rw [ec] at hmk
  have hb0 : Blok (w.alloc (.cells (cellsB (List.replicate (k + 1) 0)).toArray 5)) w.heap.size 5 (cellsB (List.replicate (k + 1) 0)) := Blok.new _ _ _
  have hB0 : Below w.heap.size w (w.alloc (.cells (cellsB (List.replicate (k + 1) 0)).toArray 5)) := (Below.refl _ w).alloc (Nat.le_refl _) _
  have HB0 := Lib.hid hb0
  clear hb0
  go_enter Try.func57, Try.ntmps57
  go_wp2_with (go_at_call 62; refine (hfol _).mono ?_; rintro e w' ⟨rfl, rfl⟩)
  go_loopw [5, 12] (fun _ x wr => ∃ (j : Nat), j ≤ k ∧ x = .int .i64 j ∧ Hid (Blok wr w.heap.size 5 (cellsB (List.replicate (k + 1 - j) 0 ++ M.be n j))) ∧ Below w.heap.size w wr) (fun _ x _ => k - (intOf x).toNat)
  case atStart => exact ⟨0, by omega, rfl, by simpa [M.be] using HB0, hB0⟩
  case round =>
    obtain ⟨j, hj, rfl, hb, hB⟩ := hrel
    by_cases hlt : j < k
    · have hc := (hb.out.cell (k - j)).trans (cellsB_get _ _ (by simp [M.be_length]; omega))
      have hf := hb.out.frozen (k - j)
      have e1 : (k : Int) - (j : Int) = ((k - j : Nat) : Int) := by omega
      have hkj : k - j < k + 1 := by omega
      obtain ⟨q, hq⟩ : ∃ q, k - j = q := ⟨_, rfl⟩
      rw [hq] at hc hf e1 hkj
      have HQ := Lib.hid hq
      clear hq
      have HC := Lib.hid hc
      obtain ⟨u, hu⟩ : ∃ u, wr.cell? ⟨w.heap.size, q, none⟩ = some u := ⟨_, hc⟩
      clear hc
      go_wp2
      go_round
      case rel =>
        refine ⟨j + 1, by omega, by go_num, ?_, hB.setCell (Nat.le_refl _) _⟩
        have h := hb.out.store q (.int .u8 (V / 2 ^ (8 * j) % 256))
        rw [← HV.out, byte_num] at h
        have e2 : (cellsB (List.replicate (k + 1 - j) 0 ++ M.be n j)).set q (.int .u8 ((n / 256 ^ j % 256 : Nat) : Int)) = cellsB (List.replicate (k + 1 - (j + 1)) 0 ++ M.be n (j + 1)) := by
          rw [← be_step n k j hlt, HQ.out]; unfold cellsB; rw [List.map_set]
        rw [e2] at h
        rw [← HV.out, byte_num]
        exact h
      case measure => simp [intOf]; omega
    · obtain rfl : j = k := by omega
      have hc := (hb.out.cell 0).trans (cellsB_get _ _ (by simp))
      have hf := hb.out.frozen 0
      obtain ⟨u, hu⟩ : ∃ u, wr.cell? ⟨w.heap.size, 0, none⟩ = some u := ⟨_, hc⟩
      clear hc
      have e8 : IntKind.i64.wrap (8 * (j : Int)) = ((8 * j : Nat) : Int) := by rw [IntWalk.i64_in _ (by omega)]; simp
      go_wp2
      go_region_with (go_at_call 61; refine (lead_any _ _ hk8).mono ?_; rintro e w' ⟨rfl, rfl⟩)
      all_goals go_wp2
      all_goals go_ret
      have hn := HN.out
      have hk := HK.out
      have htop := M.top_lt n hn
      have h := hb.out.store 0 (.int .u8 (bits BinOp.or IntKind.u8 (↑(M.lead j)) (V / 2 ^ (8 * j) % 256)))
      have e3 : bits BinOp.or IntKind.u8 (↑(M.lead j)) (V / 2 ^ (8 * j) % 256) = ((M.lead j + n / 256 ^ j : Nat) : Int) := by
        rw [hk] at htop
        have hs : n / 256 ^ j < 256 := Nat.lt_of_le_of_lt (Nat.le_add_left _ (M.lead j)) (M.lead_add_lt j _ hk8 htop)
        rw [← HV.out, byte_num, Nat.mod_eq_of_lt hs, u8_or_nat _ _ (M.lead_lt j) hs, M.lead_or j _ hk8 htop]
      have e4 : (cellsB (List.replicate (j + 1 - j) 0 ++ M.be n j)).set 0 (.int .u8 ((M.lead j + n / 256 ^ j : Nat) : Int)) = cellsB (M.code n) := by
        rw [show j + 1 - j = 1 by omega]
        unfold M.code
        rw [hk]
        simp [cellsB]
      rw [e3, e4] at h
      rw [e3]
      have h2 : Blok ((wr.setCell { block := w.heap.size, off := 0 } (Value.int IntKind.u8 ((M.lead j + n / 256 ^ j : Nat) : Int))).drew) w.heap.size 5 (cellsB (M.code n)) := h
      refine ⟨some ⟨w.heap.size, 0, none⟩, j + 1, ?_, h2.row (M.code_lt n hn) h2.lt, (hB.setCell (Nat.le_refl _) _).drew⟩
      rw [M.code_length, hk]
      rfl
end Go.Proofs.Ytadcmljcbmfcaaa.Wi
