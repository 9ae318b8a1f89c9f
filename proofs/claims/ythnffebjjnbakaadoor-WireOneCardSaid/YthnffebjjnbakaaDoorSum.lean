/-
  Sum, the reference's Sum, check.
-/
import Derived.Test.YthnffebjjnbakaaDoorJoin
import Derived.Deep.LoopGhost
namespace Go.Proofs.YthnffebjjnbakaaDoor
open Go.RowKit

/-- The table of the checksum stands in the first package-level variable. -/
def Tab (w : World) : Prop := ∀ i, i < 16 → w.cell? ⟨0, i, none⟩ = some (.int .u32 ((M.T[i]?.getD 0 : Nat) : Int))
theorem Tab.up {w w' : World} (h : Tab w) (hb : Below w.heap.size w w') : Tab w' := fun i hi =>
  (hb.cell (World.block_lt_of_cell? w _ (h i hi))).trans (h i hi)

theorem and15 (c : Nat) (h : c < 4294967296) : bits .and .u32 (c : Int) 15 = ((c % 16 : Nat) : Int) := by
  rw [show (15 : Int) = ((15 : Nat) : Int) from rfl, u32_and_nat _ _ h (by decide)]
  congr 1
  exact Nat.and_two_pow_sub_one_eq_mod c 4
theorem half_num (c : Nat) (h : c < 4294967296) : bits .xor .u32 ((c : Int) / 16) ((M.T[c % 16]?.getD 0 : Nat) : Int) = ((M.half c : Nat) : Int) := by
  rw [show (c : Int) / 16 = ((c / 16 : Nat) : Int) by omega, u32_xor_nat _ _ (by omega) (M.T_lt _)]
  rfl

theorem crc_num (s : Nat) (h : s < 4294967296) : bits BinOp.xor IntKind.u32 IntKind.u32.max (s : Int) = ((s ^^^ 4294967295 : Nat) : Int) := by
  rw [show IntKind.u32.max = ((4294967295 : Nat) : Int) from rfl, u32_xor_nat _ _ (by decide) h, Nat.xor_comm]

set_option maxRecDepth 100000 in
set_option maxHeartbeats 1600000 in
theorem sum_any (A : Option Addr) (c : Nat) (l : List Nat) (w : World) (hr : Row w w.heap.size A l) (hl : l.length ≤ 281474976710656) (ht : Tab w) :
    Calls Tryd.prog 20 #[.slice A l.length c] w fun e w' => e = .returned (.int .u32 (M.crc l : Nat)) ∧ w = w' := by
  obtain ⟨N, hN⟩ : ∃ N, l.length = N := ⟨_, rfl⟩
  have HN := Lib.hid hN
  rw [hN] at hl ⊢
  clear hN
  have HR := Lib.hid hr
  have HT := Lib.hid ht
  clear hr ht
  go_enter Tryd.func20, Tryd.ntmps20
  go_wp2
  go_step3
  go_wp2
  go_step3
  go_wp2
  go_loopg [3, 5, 6, 9] N (fun g s3 _ _ s9 wx => ∃ (k s : Nat), k + g = N ∧ s9 = .int .i64 k ∧ s3 = .int .u32 s ∧ s < 4294967296 ∧ Hid (s = M.crcL (l.take k)) ∧ w = wx)
  case atStart => exact ⟨0, 4294967295, by omega, rfl, rfl, by omega, rfl, rfl⟩
  case round =>
    obtain ⟨k, s, hkg, rfl, rfl, hs, HS, rfl⟩ := hrel
    cases gk with
    | zero =>
      have HC : Hid (M.crcL l = s) := by show _ = _; rw [HS.out, List.take_of_length_le (by rw [HN.out]; omega)]
      have hkz : ¬ ((k : Int) < (N : Int)) := by omega
      go_wp2
      go_ret
      exact ⟨ret_int (by rw [crc_num s hs]; unfold M.crc; rw [HC.out]), rfl⟩
    | succ g =>
      have hkz : (k : Int) < (N : Int) := by omega
      obtain ⟨b, off, rfl, hb, hc⟩ := HR.out.2 (by rw [HN.out]; omega)
      have hx := HR.out.elem k
      have hck := hc k (by rw [HN.out]; omega)
      clear hc
      obtain ⟨x, hxe⟩ : ∃ x, l[k]?.getD 0 = x := ⟨_, rfl⟩
      rw [hxe] at hx hck
      have HX := Lib.hid hxe
      clear hxe
      have hxor := u32_xor_nat s x hs (by omega)
      have hs0 : s ^^^ x < 4294967296 := Nat.xor_lt_two_pow (n := 32) hs (by omega)
      have HF : Hid (M.half (M.half (s ^^^ x)) = M.crcL (l.take (k + 1))) := by
        show _ = _
        rw [M.crcL_take l k (by rw [HN.out]; omega), ← HS.out, HX.out]; rfl
      obtain ⟨s0, hs0e⟩ : ∃ s0, s ^^^ x = s0 := ⟨_, rfl⟩
      rw [hs0e] at hs0 HF hxor
      clear hs0e
      go_wp2
      go_loopg [3, 6] 2 (fun g2 s3 s6 wx => ∃ (h t : Nat), h + g2 = 2 ∧ s6 = .int .i64 h ∧ s3 = .int .u32 t ∧ t < 4294967296 ∧ Hid (t = if h = 0 then s0 else if h = 1 then M.half s0 else M.half (M.half s0)) ∧ w = wx)
      case atStart => exact ⟨0, s0, by omega, rfl, rfl, hs0, rfl, rfl⟩
      case round =>
        obtain ⟨h, t, hg2, rfl, rfl, htl, hte, rfl⟩ := hrel
        cases gk with
        | zero =>
          obtain rfl : h = 2 := by omega
          go_wp2
          go_roundg g
          case rel => exact ⟨k + 1, t, by omega, by go_num, rfl, htl, by show _ = _; rw [← HF.out]; exact hte.out, rfl⟩
          case measure => omega
        | succ g2 =>
          have h15 := and15 t htl
          have hcT := HT.out (t % 16) (by omega)
          have hx2 := half_num t htl
          have hlt := M.half_lt t htl
          have hnx : Hid (M.half t = if h + 1 = 0 then s0 else if h + 1 = 1 then M.half s0 else M.half (M.half s0)) := by
            show _ = _
            have := hte.out
            rcases (show h = 0 ∨ h = 1 by omega) with rfl | rfl
            · simpa using congrArg M.half this
            · simpa using congrArg M.half this
          have hh : ((h : Int) == 2) = false := by rw [beq_eq_false_iff_ne]; omega
          have hm16 : t % 16 < 16 := by omega
          go_wp2
          go_roundg g2
          case rel => exact ⟨h + 1, M.half t, by omega, by go_num, rfl, hlt, hnx, rfl⟩
          case measure => omega

/-- h bits. -/
def stepN (s : Nat) : Nat → Nat
  | 0 => s
  | h + 1 => M.step (stepN s h)
theorem stepN_eight (s : Nat) : stepN s 8 = M.half (M.half s) := by
  rw [M.half_eq, M.half_eq]; rfl
theorem and1 (c : Nat) (h : c < 4294967296) : bits .and .u32 (c : Int) 1 = ((c % 2 : Nat) : Int) := by
  rw [show (1 : Int) = ((1 : Nat) : Int) from rfl, u32_and_nat _ _ h (by decide)]
  congr 1
  exact Nat.and_two_pow_sub_one_eq_mod c 1
theorem step_odd (c : Nat) (h : c < 4294967296) (h1 : c % 2 = 1) : bits .xor .u32 ((c : Int) / 2) 3988292384 = ((M.step c : Nat) : Int) := by
  rw [show (c : Int) / 2 = ((c / 2 : Nat) : Int) by omega, show (3988292384 : Int) = ((3988292384 : Nat) : Int) from rfl, u32_xor_nat _ _ (by omega) (by decide)]
  unfold M.step
  rw [if_pos h1]
theorem step_even (c : Nat) (h1 : ¬ c % 2 = 1) : (c : Int) / 2 = ((M.step c : Nat) : Int) := by
  unfold M.step
  rw [if_neg h1, Nat.xor_zero]
  omega
theorem crc_num2 (s : Nat) (h : s < 4294967296) : bits BinOp.xor IntKind.u32 (s : Int) 4294967295 = ((s ^^^ 4294967295 : Nat) : Int) := by
  rw [show (4294967295 : Int) = ((4294967295 : Nat) : Int) from rfl, u32_xor_nat _ _ h (by decide)]

set_option maxRecDepth 100000 in
set_option maxHeartbeats 1600000 in
theorem rsum_any (A : Option Addr) (c : Nat) (l : List Nat) (w : World) (hr : Row w w.heap.size A l) (hl : l.length ≤ 281474976710656) :
    Calls Tryd.prog 21 #[.slice A l.length c] w fun e w' => e = .returned (.int .u32 (M.crc l : Nat)) ∧ w = w' := by
  obtain ⟨N, hN⟩ : ∃ N, l.length = N := ⟨_, rfl⟩
  have HN := Lib.hid hN
  rw [hN] at hl ⊢
  clear hN
  have HR := Lib.hid hr
  clear hr
  go_enter Tryd.func21, Tryd.ntmps21
  go_wp2
  go_loopg [3, 4, 5] N (fun g s3 s4 _ wx => ∃ (k s : Nat), k + g = N ∧ s4 = .int .i64 k ∧ s3 = .int .u32 s ∧ s < 4294967296 ∧ Hid (s = M.crcL (l.take k)) ∧ w = wx)
  case atStart => exact ⟨0, 4294967295, by omega, rfl, rfl, by omega, rfl, rfl⟩
  case round =>
    obtain ⟨k, s, hkg, rfl, rfl, hs, HS, rfl⟩ := hrel
    cases gk with
    | zero =>
      have HC : Hid (M.crcL l = s) := by show _ = _; rw [HS.out, List.take_of_length_le (by rw [HN.out]; omega)]
      have hkz : ¬ ((k : Int) < (N : Int)) := by omega
      go_wp2
      go_ret
      exact ⟨ret_int (by rw [crc_num2 s hs]; unfold M.crc; rw [HC.out]), rfl⟩
    | succ g =>
      have hkz : (k : Int) < (N : Int) := by omega
      obtain ⟨b, off, rfl, hb, hc⟩ := HR.out.2 (by rw [HN.out]; omega)
      have hx := HR.out.elem k
      have hck := hc k (by rw [HN.out]; omega)
      clear hc
      obtain ⟨x, hxe⟩ : ∃ x, l[k]?.getD 0 = x := ⟨_, rfl⟩
      rw [hxe] at hx hck
      have HX := Lib.hid hxe
      clear hxe
      have hxor := u32_xor_nat s x hs (by omega)
      have hs0 : s ^^^ x < 4294967296 := Nat.xor_lt_two_pow (n := 32) hs (by omega)
      have HF : Hid (stepN (s ^^^ x) 8 = M.crcL (l.take (k + 1))) := by
        show _ = _
        rw [M.crcL_take l k (by rw [HN.out]; omega), ← HS.out, HX.out, stepN_eight]; rfl
      obtain ⟨s0, hs0e⟩ : ∃ s0, s ^^^ x = s0 := ⟨_, rfl⟩
      rw [hs0e] at hs0 HF hxor
      clear hs0e
      go_wp2
      go_loopg [3, 5] 8 (fun g2 s3 s6 wx => ∃ (h t : Nat), h + g2 = 8 ∧ s6 = .int .i64 h ∧ s3 = .int .u32 t ∧ t < 4294967296 ∧ Hid (t = stepN s0 h) ∧ w = wx)
      case atStart => exact ⟨0, s0, by omega, rfl, rfl, hs0, rfl, rfl⟩
      case round =>
        obtain ⟨h, t, hg2, rfl, rfl, htl, hte, rfl⟩ := hrel
        cases gk with
        | zero =>
          obtain rfl : h = 8 := by omega
          go_wp2
          go_roundg g
          case rel => exact ⟨k + 1, t, by omega, by go_num, rfl, htl, by show _ = _; rw [← HF.out]; exact hte.out, rfl⟩
          case measure => omega
        | succ g2 =>
          have h1 := and1 t htl
          have hlt := M.step_lt t htl
          have hnx : Hid (M.step t = stepN s0 (h + 1)) := by show _ = _; rw [hte.out]; rfl
          have hh : (h : Int) < 8 := by omega
          by_cases hp : t % 2 = 1
          · have hb : (((t % 2 : Nat) : Int) == 1) = true := by rw [hp]; rfl
            have hx2 := step_odd t htl hp
            clear hp
            go_wp2
            go_roundg g2
            case rel => exact ⟨h + 1, M.step t, by omega, by go_num, rfl, hlt, hnx, rfl⟩
            case measure => omega
          · have hb : (((t % 2 : Nat) : Int) == 1) = false := by rw [beq_eq_false_iff_ne]; omega
            have hx2 := step_even t hp
            clear hp
            go_wp2
            go_roundg g2
            case rel => exact ⟨h + 1, M.step t, by omega, by go_num, rfl, hlt, hnx, rfl⟩
            case measure => omega

theorem made_le (L : List Nat) (i x : Nat) : (cellsB L).set i (.int .u8 (x : Int)) = cellsB (L.set i x) := by
  unfold cellsB; rw [List.map_set]
def leN (s j : Nat) : List Nat := ((M.le4 s).take j) ++ List.replicate (4 - j) 0
theorem leN_step (s j : Nat) (h : j < 4) : (leN s j).set j (s / 256 ^ j % 256) = leN s (j + 1) := by
  rcases (show j = 0 ∨ j = 1 ∨ j = 2 ∨ j = 3 by omega) with rfl | rfl | rfl | rfl <;> simp [leN, M.le4]

set_option maxRecDepth 100000 in
set_option maxHeartbeats 1600000 in
theorem check_any (A : Option Addr) (c : Nat) (l : List Nat) (w : World) (hr : Row w w.heap.size A l) (hl : l.length ≤ 281474976710656) (ht : Tab w) :
    Calls Tryd.prog 33 #[.slice A l.length c] w (Made (M.le4 (M.crc l)) w) := by
  have hs := M.crc_lt l hr.1
  have hsum := sum_any A c l w hr hl ht
  obtain ⟨s, hse⟩ : ∃ s, M.crc l = s := ⟨_, rfl⟩
  rw [hse] at hs hsum ⊢
  clear hse
  have hmk := fun (W : World) => run_make_row' (P := Tryd.prog) 22 5 (.int .u8 0) 1 Tryd.underlying22 info5 rfl .i64 .i64 4 (by omega) (by omega) W
  simp only [made_zero] at hmk
  have hb0 : Blok (w.alloc (.cells (cellsB (List.replicate 4 0)).toArray 5)) w.heap.size 5 (cellsB (List.replicate 4 0)) := Blok.new _ _ _
  have hB0 : Below w.heap.size w (w.alloc (.cells (cellsB (List.replicate 4 0)).toArray 5)) := (Below.refl _ w).alloc (Nat.le_refl _) _
  obtain ⟨X, hX⟩ : ∃ X, cellsB (List.replicate 4 0) = X := ⟨_, rfl⟩
  rw [hX] at hmk hb0 hB0
  have HX := Lib.hid hX
  have HB0 := Lib.hid hb0
  clear hb0 hX
  have hmk2 : ∀ (W : World), (Instr.makeSlice 22 (.int .i64 4) (.int .i64 4)).run Tryd.prog W = .ok (.slice (some ⟨W.heap.size, 0, none⟩) 4 4) (W.alloc (.cells X.toArray 5)) := hmk
  clear hmk
  go_enter Tryd.func33, Tryd.ntmps33
  go_wp2_with (go_at_call 20; refine hsum.mono ?_; rintro e w' ⟨rfl, rfl⟩)
  clear hsum
  go_loopw [5, 9] (fun _ x wr => ∃ (j : Nat), j ≤ 4 ∧ x = .int .i64 j ∧ Hid (Blok wr w.heap.size 5 (cellsB (leN s j))) ∧ Below w.heap.size w wr) (fun _ x _ => 4 - (intOf x).toNat)
  case atStart => exact ⟨0, by omega, rfl, by show Blok _ _ _ _; have := HB0.out; rwa [← HX.out] at this ⊢, hB0⟩
  case round =>
    obtain ⟨j, hj, rfl, hb, hB⟩ := hrel
    by_cases hlt : j < 4
    · have hc := (hb.out.cell j).trans (cellsB_get _ _ (by simp [leN, M.le4]; omega))
      have hf := hb.out.frozen j
      obtain ⟨u, hu⟩ : ∃ u, wr.cell? ⟨w.heap.size, j, none⟩ = some u := ⟨_, hc⟩
      clear hc
      go_wp2
      go_round
      case rel =>
        refine ⟨j + 1, by omega, by go_num, ?_, hB.setCell (Nat.le_refl _) _⟩
        have h := hb.out.store j (.int .u8 ((s : Int) / 2 ^ (8 * j) % 256))
        rw [byte_num, made_le, leN_step s j hlt] at h
        rw [byte_num]
        exact h
      case measure => simp [intOf]; omega
    · obtain rfl : j = 4 := by omega
      go_wp2
      go_ret
      have h : Blok wr w.heap.size 5 (cellsB (M.le4 s)) := hb.out
      exact ⟨_, 4, rfl, h.row (M.le4_lt s) h.lt, hB⟩
end Go.Proofs.YthnffebjjnbakaaDoor
