/-
  The reference's Number, Text, TakeNumber, TakeText of the bytes.
-/
import Derived.Test.YtadcmljcbmfcaaaWText
import Derived.Test.YtadcmljcbmfcaaaVConcat
import Derived.Laws.BitsAllLaws
import Derived.Laws.ShiftsVar
import Derived.Lib.Hide
import Derived.LoopTactic
import Derived.WalkKit
import Derived.WalkLawsBesides
import Derived.WalkSpells
namespace Go.Proofs.Ytadcmljcbmfcaaa.Wi
open Go.RowKit
set_option linter.unusedVariables false
set_option linter.unusedSimpArgs false

set_option maxRecDepth 100000 in
set_option maxHeartbeats 800000 in
theorem follow_any (n : Nat) (w : World) (hn : n < 18446744073709551616) :
    Calls Try.prog 59 #[.int .u64 n] w fun e w' => e = .returned (.int .i64 (M.fol n)) ∧ w = w' := by
  obtain ⟨V, hV⟩ : ∃ V : Int, (n : Int) = V := ⟨_, rfl⟩
  have HV := Lib.hid hV
  rw [hV]
  clear hV
  have HN := Lib.hid hn
  clear hn
  go_enter Try.func59, Try.ntmps59
  go_wp2
  go_loop [3] (fun k => ∃ (j : Nat), j ≤ 8 ∧ k = .int .i64 j ∧ Hid (M.folF n (8 - j) j = M.fol n)) (fun k => 8 - (intOf k).toNat)
  case atStart => exact ⟨0, by omega, rfl, rfl⟩
  case round =>
    obtain ⟨j, hj, rfl, hs⟩ := hrel
    by_cases hlt : j < 8
    · by_cases h : n < 2 ^ (7 * j + 7)
      · have HZ : Hid (M.fol n = j) := by show _ = _; rw [← hs.out]; exact M.folF_yes n _ j h (by omega)
        have hz : ¬ 0 < V / 2 ^ (7 + 7 * j) := by
          rw [← HV.out, show (n : Int) / 2 ^ (7 + 7 * j) = ((n / 2 ^ (7 + 7 * j) : Nat) : Int) by simp, Nat.add_comm 7, Nat.div_eq_of_lt h]; decide
        clear h
        go_wp2
        go_ret
        exact ⟨ret_int (by rw [HZ.out]), rfl⟩
      · have HZ : Hid (M.folF n (8 - (j + 1)) (j + 1) = M.fol n) := by show _ = _; rw [← hs.out, ← M.folF_no n _ j h]; congr 1; omega
        have hz : 0 < V / 2 ^ (7 + 7 * j) := by
          rw [← HV.out, show (n : Int) / 2 ^ (7 + 7 * j) = ((n / 2 ^ (7 + 7 * j) : Nat) : Int) by simp, Nat.add_comm 7]
          have : n / 2 ^ (7 * j + 7) ≠ 0 := by
            intro e; rw [Nat.div_eq_zero_iff] at e; have := Nat.two_pow_pos (7 * j + 7); omega
          exact Int.natCast_pos.2 (Nat.pos_of_ne_zero this)
        clear h
        go_wp2
        go_round
        case rel => exact ⟨j + 1, by omega, by go_num, HZ⟩
        case measure => simp [intOf]; omega
    · obtain rfl : j = 8 := by omega
      have HZ : Hid (M.fol n = 8) := by show _ = _; rw [← hs.out]; rfl
      go_wp2
      go_ret
      exact ⟨ret_int (by rw [HZ.out]; rfl), rfl⟩

theorem lead_or_next (i : Nat) (h : i < 8) : bits .or .u8 ((M.lead i : Nat) : Int) (128 / 2 ^ i) = ((M.lead (i + 1) : Nat) : Int) := by
  have : ∀ i, i < 8 → bits .or .u8 ((M.lead i : Nat) : Int) (128 / 2 ^ i) = ((M.lead (i + 1) : Nat) : Int) := by decide +kernel
  exact this i h
theorem row_one (w : World) (x : Nat) (hx : x < 256) : Row (w.alloc (.cells #[.int .u8 (x : Int)] 5)) (w.heap.size + 1) (some ⟨w.heap.size, 0, none⟩) [x] :=
  Blok.row (g := w.heap.size) (l := [x]) (by have := Blok.new w 5 (cellsB [x]); simpa [cellsB] using this) (by simpa using hx) (by omega)
/-- append(out, x): one byte, in a block of its own. -/
theorem OwnB.one {w : World} {base g cap : Nat} {l : List Nat} (h : OwnB w base g cap l) (x : Nat) (hx : x < 256) (ty : TypeId) (hb : l.length ≤ 199999999999999) (hbase : base ≤ w.heap.size) :
    ∃ g' cap' w', (Builtin.append_ #[43, 43] ty #[.slice (some ⟨g, 0, none⟩) l.length cap, .slice (some ⟨w.heap.size, 0, none⟩) 1 1]).run Try.prog (w.alloc (.cells #[.int .u8 (x : Int)] 5)) = .ok (.slice (some ⟨g', 0, none⟩) (l.length + 1) cap') w' ∧ OwnB w' base g' cap' (l ++ [x]) ∧ Below base w w' := by
  obtain ⟨g', cap', w', h1, h2, h3⟩ := (h.alloc (.cells #[.int .u8 (x : Int)] 5)).append (some ⟨w.heap.size, 0, none⟩) 1 [x] _ (row_one w x hx) ty (by simp; omega) (by simp; omega)
  exact ⟨g', cap', w', h1, h2, ((Below.refl _ w).alloc hbase _).grown h3 (by simp; omega) (by rintro k e; cases e; exact h.lt.1)⟩

set_option maxRecDepth 100000 in
set_option maxHeartbeats 1600000 in
theorem rnumber_any (A : Option Addr) (c : Nat) (l : List Nat) (n : Nat) (w : World) (hr : Row w w.heap.size A l) (hl : l.length ≤ 199999999999900) (hn : n < 18446744073709551616) :
    Calls Try.prog 47 #[.slice A l.length c, .int .u64 n] w (Owned (l ++ M.code n) w) := by
  obtain ⟨X, hX, hmk⟩ := make_cap (l.length + 9) (by omega) w
  have ec : ((l.length + 9 : Nat) : Int) = (l.length : Int) + 9 := by omega
  rw [ec] at hmk
  clear ec
  have hO0 : OwnB (w.alloc (.cells X 5)) w.heap.size w.heap.size (l.length + 9) [] := OwnB.of X (Nat.le_refl _) (heap_alloc_new w _) (by simp) (by unfold maxLen; omega) hX (by simp [cellsB])
  obtain ⟨w1, hap, hO1, hg1⟩ := hO0.fits A c l w.heap.size (hr.below ((Below.refl _ w).alloc (Nat.le_refl _) _)) 43 (by simp)
  have hB1 : Below w.heap.size w w1 := ((Below.refl _ w).alloc (Nat.le_refl _) _).grown hg1 (by simp) (by rintro j e; cases e; exact Nat.le_refl _)
  rw [List.nil_append] at hO1
  simp only [List.length_nil, Nat.zero_add] at hap
  have hfol := fun w => follow_any n w hn
  have hk8 := M.fol_le n
  have htop := M.top_lt n hn
  obtain ⟨k, hk⟩ : ∃ k, M.fol n = k := ⟨_, rfl⟩
  have HCO : Hid (M.code n = (M.lead k + n / 256 ^ k) :: M.be n k) := by show _ = _; rw [← hk]; rfl
  rw [hk] at hfol hk8 htop
  obtain ⟨V, hV⟩ : ∃ V : Int, (n : Int) = V := ⟨_, rfl⟩
  have HV := Lib.hid hV
  have HTOP := Lib.hid htop
  rw [hV] at hfol ⊢
  have HAP := Lib.hid hap
  have HO1 := Lib.hid hO1
  clear hV hn hk hap hO1 hO0 hg1 hX htop hr
  go_enter Try.func47, Try.ntmps47
  go_wp2_with (first
    | (at_builtin; refine wpList_append_run rfl _ _ _ _ rfl _ _ rfl rfl HAP.out ?_)
    | (go_at_call 59; refine (hfol _).mono ?_; rintro e w' ⟨rfl, rfl⟩))
  go_loop [7, 8] (fun s i => ∃ (q : Nat), q ≤ k ∧ i = .int .i64 q ∧ s = .int .u8 (M.lead q)) (fun _ i => k - (intOf i).toNat)
  case atStart => exact ⟨0, by omega, rfl, rfl⟩
  case round =>
    obtain ⟨q, hq, rfl, rfl⟩ := hrel
    by_cases hlt : q < k
    · have hor := lead_or_next q (by omega)
      go_wp2
      go_round
      case rel => exact ⟨q + 1, by omega, by go_num, rfl⟩
      case measure => simp [intOf]; omega
    · obtain rfl : q = k := by omega
      obtain ⟨F, hF⟩ : ∃ F, M.lead q + n / 256 ^ q = F := ⟨_, rfl⟩
      have hF256 : F < 256 := by rw [← hF]; exact M.lead_add_lt q _ hk8 HTOP.out
      have hor : q < 8 → bits .or .u8 ((M.lead q : Nat) : Int) (V / 2 ^ (8 * q) % 256) = (F : Int) := by
        intro _
        have hs : n / 256 ^ q < 256 := Nat.lt_of_le_of_lt (Nat.le_add_left _ (M.lead q)) (M.lead_add_lt q _ hk8 HTOP.out)
        rw [← HV.out, byte_num, Nat.mod_eq_of_lt hs, u8_or_nat _ _ (M.lead_lt q) hs, M.lead_or q _ hk8 HTOP.out, hF]
      have h88 : ¬ q < 8 → M.lead q = F := by
        intro h
        obtain rfl : q = 8 := by omega
        rw [← hF]
        have : n / 256 ^ 8 < 2 ^ (7 - 8) := HTOP.out
        rw [show 7 - 8 = 0 from rfl] at this
        omega
      obtain ⟨g2, cap2, w2, hap2, hO2, hB2⟩ := HO1.out.one F hF256 43 (by omega) hB1.size
      have HAP2 := Lib.hid hap2
      have HO2 := Lib.hid hO2
      have hB2' : Below w.heap.size w w2 := hB1.trans hB2
      have HF := Lib.hid hF
      clear hap2 hO2 hB2 hF
      by_cases h8 : q < 8
      · have hor2 := hor h8
        clear hor h88 hfol hmk
        go_wp2_with (at_builtin; refine wpList_append_run rfl _ _ _ _ rfl _ _ rfl rfl HAP2.out ?_)
        go_loopw [5, 9] (fun o i wr => ∃ (m : Nat) (L : List Nat) (g cap : Nat) (I : Int), m ≤ 8 ∧ L.length + m ≤ l.length + 9 ∧ o = .slice (some ⟨g, 0, none⟩) L.length cap ∧ i = .int .i64 I ∧ Hid (I = (m : Int) - 1) ∧ Hid (L ++ M.be n m = l ++ M.code n) ∧ Hid (OwnB wr w.heap.size g cap L) ∧ Below w.heap.size w wr) (fun _ i _ => (intOf i + 1).toNat)
        case atStart => exact ⟨q, l ++ [F], g2, cap2, _, hk8, by simp; omega, by simp, rfl, rfl, by show _ = _; rw [HCO.out, HF.out]; simp, HO2, hB2'⟩
        case round =>
          obtain ⟨m, L, g, cap, I, hm, hLm, rfl, rfl, hI, hL, hO, hB⟩ := hrel
          by_cases h0 : m = 0
          · have hneg : ¬ 0 ≤ I := by have := hI.out; omega
            have HLE : Hid (L = l ++ M.code n) := by show _ = _; rw [← hL.out, h0]; simp [M.be]
            go_wp2
            go_ret
            rw [← HLE.out]
            exact ⟨g, cap, rfl, hO.out, hB⟩
          · obtain ⟨m, rfl⟩ : ∃ m', m = m' + 1 := ⟨m - 1, by omega⟩
            obtain ⟨i, rfl⟩ : ∃ i : Nat, I = i := ⟨I.toNat, by have := hI.out; omega⟩
            have him : Hid (i = m) := by show _ = _; have := hI.out; omega
            obtain rfl := him.out
            have hbv : Hid (V / 2 ^ (8 * i) % 256 = ((n / 256 ^ i % 256 : Nat) : Int)) := by show _ = _; rw [← HV.out, byte_num]
            have hbe : Hid ((L ++ [n / 256 ^ i % 256]) ++ M.be n i = l ++ M.code n) := by show _ = _; rw [← hL.out]; simp [M.be]
            have hb2 := hbv.out
            obtain ⟨y, hy⟩ : ∃ y, n / 256 ^ i % 256 = y := ⟨_, rfl⟩
            have hy256 : y < 256 := by rw [← hy]; exact Nat.mod_lt _ (by decide)
            rw [hy] at hb2 hbe
            obtain ⟨g3, cap3, w3, hap3, hO3, hB3⟩ := hO.out.one y hy256 43 (by omega) hB.size
            have HAP3 := Lib.hid hap3
            have HO3 := Lib.hid hO3
            have hB3' : Below w.heap.size w w3 := hB.trans hB3
            clear hap3 hO3 hB3 hy h0 him hbv
            go_wp2_with (at_builtin; refine wpList_append_run rfl _ _ _ _ rfl _ _ rfl rfl HAP3.out ?_)
            go_round
            case rel => exact ⟨i, L ++ [y], g3, cap3, _, by omega, by simp; omega, by simp, rfl, by show _ = _; rfl, hbe, HO3, hB3'⟩
            case measure => simp [intOf]
      · have h882 := h88 h8
        clear hor h88 hfol hmk
        rw [h882]
        clear h882
        go_wp2_with (at_builtin; refine wpList_append_run rfl _ _ _ _ rfl _ _ rfl rfl HAP2.out ?_)
        go_loopw [5, 9] (fun o i wr => ∃ (m : Nat) (L : List Nat) (g cap : Nat) (I : Int), m ≤ 8 ∧ L.length + m ≤ l.length + 9 ∧ o = .slice (some ⟨g, 0, none⟩) L.length cap ∧ i = .int .i64 I ∧ Hid (I = (m : Int) - 1) ∧ Hid (L ++ M.be n m = l ++ M.code n) ∧ Hid (OwnB wr w.heap.size g cap L) ∧ Below w.heap.size w wr) (fun _ i _ => (intOf i + 1).toNat)
        case atStart => exact ⟨q, l ++ [F], g2, cap2, _, hk8, by simp; omega, by simp, rfl, rfl, by show _ = _; rw [HCO.out, HF.out]; simp, HO2, hB2'⟩
        case round =>
          obtain ⟨m, L, g, cap, I, hm, hLm, rfl, rfl, hI, hL, hO, hB⟩ := hrel
          by_cases h0 : m = 0
          · have hneg : ¬ 0 ≤ I := by have := hI.out; omega
            have HLE : Hid (L = l ++ M.code n) := by show _ = _; rw [← hL.out, h0]; simp [M.be]
            go_wp2
            go_ret
            rw [← HLE.out]
            exact ⟨g, cap, rfl, hO.out, hB⟩
          · obtain ⟨m, rfl⟩ : ∃ m', m = m' + 1 := ⟨m - 1, by omega⟩
            obtain ⟨i, rfl⟩ : ∃ i : Nat, I = i := ⟨I.toNat, by have := hI.out; omega⟩
            have him : Hid (i = m) := by show _ = _; have := hI.out; omega
            obtain rfl := him.out
            have hbv : Hid (V / 2 ^ (8 * i) % 256 = ((n / 256 ^ i % 256 : Nat) : Int)) := by show _ = _; rw [← HV.out, byte_num]
            have hbe : Hid ((L ++ [n / 256 ^ i % 256]) ++ M.be n i = l ++ M.code n) := by show _ = _; rw [← hL.out]; simp [M.be]
            have hb2 := hbv.out
            obtain ⟨y, hy⟩ : ∃ y, n / 256 ^ i % 256 = y := ⟨_, rfl⟩
            have hy256 : y < 256 := by rw [← hy]; exact Nat.mod_lt _ (by decide)
            rw [hy] at hb2 hbe
            obtain ⟨g3, cap3, w3, hap3, hO3, hB3⟩ := hO.out.one y hy256 43 (by omega) hB.size
            have HAP3 := Lib.hid hap3
            have HO3 := Lib.hid hO3
            have hB3' : Below w.heap.size w w3 := hB.trans hB3
            clear hap3 hO3 hB3 hy h0 him hbv
            go_wp2_with (at_builtin; refine wpList_append_run rfl _ _ _ _ rfl _ _ rfl rfl HAP3.out ?_)
            go_round
            case rel => exact ⟨i, L ++ [y], g3, cap3, _, by omega, by simp; omega, by simp, rfl, by show _ = _; rfl, hbe, HO3, hB3'⟩
            case measure => simp [intOf]

theorem strCells_byt (s : ByteArray) : Lib.strCells s = cellsB (byt s) := by
  unfold Lib.strCells cellsB byt
  simp
/-- append(out, s...), s a string. -/
theorem OwnB.str {w : World} {base g cap : Nat} {l : List Nat} (h : OwnB w base g cap l) (s : ByteArray) (ty : TypeId) (hb : l.length + s.size ≤ 140737488355328) (hbase : base ≤ w.heap.size) :
    ∃ g' cap' w', (Builtin.append_ #[43, 9] ty #[.slice (some ⟨g, 0, none⟩) l.length cap, .string s]).run Try.prog w = .ok (.slice (some ⟨g', 0, none⟩) (l ++ byt s).length cap') w' ∧ OwnB w' base g' cap' (l ++ byt s) ∧ Below base w w' := by
  obtain ⟨i0, hi, hz0, hz1, hz2⟩ := info_parts info5
  obtain ⟨v', w', hrun, ho, hg, hn⟩ := Lib.run_append_own_string (P := Try.prog) w base 43 9 ty 5 i0 Try.underlying43 Try.underlying9 hi hz0 hz1 hz2 _ _ _ h s (by unfold maxLen; omega) hb hbase
  rw [strCells_byt, ← byt_length] at ho
  rcases ho.2 with ⟨e, _⟩ | ⟨g', cap', cur, e, _⟩
  · have := (hn.1 e).1; cases this
  · rw [e] at ho hrun
    refine ⟨g', cap', w', ?_, own_app ho, (Below.refl _ w).grown hg hbase (by rintro k e; cases e; exact h.lt.1)⟩
    rw [hrun, List.length_append]

set_option maxRecDepth 100000 in
set_option maxHeartbeats 1600000 in
theorem rtext_any (A : Option Addr) (c : Nat) (l : List Nat) (s : ByteArray) (w : World) (hr : Row w w.heap.size A l) (hl : l.length + s.size ≤ 140737488355300) :
    Calls Try.prog 48 #[.slice A l.length c, .string s] w (Owned (l ++ (M.code s.size ++ byt s)) w) := by
  have hnum := rnumber_any A c l s.size w hr (by omega) (by omega)
  have hlen := M.code_len s.size
  have hLl : (l ++ M.code s.size).length + s.size ≤ 140737488355328 := by rw [List.length_append]; omega
  rw [show l ++ (M.code s.size ++ byt s) = (l ++ M.code s.size) ++ byt s by simp]
  obtain ⟨L, hL⟩ : ∃ L, l ++ M.code s.size = L := ⟨_, rfl⟩
  rw [hL] at hnum hLl ⊢
  clear hr hL
  go_enter Try.func48, Try.ntmps48
  go_wp2_with fail
  refine hnum.mono ?_
  rintro e w1 ⟨g, cap, rfl, ho, hb1⟩
  obtain ⟨g2, cap2, w2, hap, hO2, hB2⟩ := ho.str s 43 hLl hb1.size
  obtain ⟨R, hR⟩ : ∃ R, L ++ byt s = R := ⟨_, rfl⟩
  rw [hR] at hap hO2
  have HAP := Lib.hid hap
  have HO2 := Lib.hid hO2
  have HB : Hid (Below w.heap.size w w2) := hb1.trans hB2
  have HR := Lib.hid hR
  clear hap hO2 hB2 ho hb1 hR
  go_wp2_with (at_builtin; refine wpList_append_run rfl _ _ _ _ rfl _ _ rfl rfl HAP.out ?_)
  go_ret
  rw [HR.out]
  exact ⟨g2, cap2, rfl, HO2.out, HB.out⟩


theorem bit_yes (x j : Nat) (hx : x < 256) (hj : j < 8) (h : ¬ x * 2 ^ j % 256 < 128) : (bits .and .u8 ((x : Int) / 2 ^ (7 - j)) 1 == 1) = true := by
  have : ∀ j, j < 8 → ∀ x : Nat, x < 256 → ¬ x * 2 ^ j % 256 < 128 → (bits .and .u8 ((x : Int) / 2 ^ (7 - j)) 1 == 1) = true := by decide +kernel
  exact this j hj x hx h
theorem bit_no (x j : Nat) (hx : x < 256) (hj : j < 8) (h : x * 2 ^ j % 256 < 128) : (bits .and .u8 ((x : Int) / 2 ^ (7 - j)) 1 == 1) = false := by
  have : ∀ j, j < 8 → ∀ x : Nat, x < 256 → x * 2 ^ j % 256 < 128 → (bits .and .u8 ((x : Int) / 2 ^ (7 - j)) 1 == 1) = false := by decide +kernel
  exact this j hj x hx h
theorem mask_num (x k : Nat) (hx : x < 256) (hk : M.ones x = k) (hk7 : k < 7) : bits .and .u64 (x : Int) (2 ^ (7 - k) - 1) = ((x - M.lead k : Nat) : Int) := by
  subst hk
  have : ∀ x : Nat, x < 256 → M.ones x < 7 → bits .and .u64 (x : Int) (2 ^ (7 - M.ones x) - 1) = ((x - M.lead (M.ones x) : Nat) : Int) := by decide +kernel
  exact this x hx hk7
theorem rest_zero (x k : Nat) (hx : x < 256) (hk : M.ones x = k) (hk7 : ¬ k < 7) : x - M.lead k = 0 := by
  subst hk
  have : ∀ x, x < 256 → ¬ M.ones x < 7 → x - M.lead (M.ones x) = 0 := by decide +kernel
  exact this x hx hk7

set_option maxRecDepth 100000 in
set_option maxHeartbeats 1600000 in
theorem rtakeNumber_any (A : Option Addr) (c : Nat) (l : List Nat) (a : Int) (w : World) (hr : Row w w.heap.size A l) (hl : l.length ≤ 281474976710656) (ha1 : -9223372036854775808 ≤ a) (ha2 : a ≤ 9223372036854775807) :
    Calls Try.prog 51 #[.slice A l.length c, .int .i64 a] w fun e w' => e = .returned (numR (M.takeN l a)) ∧ Below w.heap.size w w' := by
  by_cases h0 : a < 0
  · rw [takeN_neg l a h0]
    go_enter Try.func51, Try.ntmps51
    go_wp2
    go_ret3
    exact ⟨rfl, Below.refl _ _⟩
  · by_cases h1 : (l.length : Int) ≤ a
    · rw [takeN_far l a h1]
      go_enter Try.func51, Try.ntmps51
      go_wp2
      go_ret3
      exact ⟨rfl, Below.refl _ _⟩
    · obtain ⟨a, rfl⟩ : ∃ n : Nat, a = n := ⟨a.toNat, by omega⟩
      have hal : a < l.length := by omega
      clear ha1 ha2 h0 h1
      obtain ⟨b, off, rfl, hb, hc⟩ := hr.2 (by omega)
      have hx := hr.elem a
      have hca := hc a hal
      have HC := Lib.hid hc
      have H256 := Lib.hid hr.1
      clear hc hr
      obtain ⟨x, hxe⟩ : ∃ x, l[a]?.getD 0 = x := ⟨_, rfl⟩
      rw [hxe] at hx hca
      have hraw0 : Hid (((x - M.lead (M.ones x) : Nat) : Int) = ((M.rawN l a 0 : Nat) : Int)) := by show _ = _; unfold M.rawN; rw [hxe]; rfl
      obtain ⟨k, hk⟩ : ∃ k, M.ones x = k := ⟨_, rfl⟩
      have hk8 := M.ones_le x hx
      rw [hk] at hraw0 hk8
      have HK : Hid (M.ones (l[a]?.getD 0) = k) := by show _ = _; rw [hxe]; exact hk
      have HKX := Lib.hid hk
      clear hxe hk
      obtain ⟨N, hN⟩ : ∃ N, l.length = N := ⟨_, rfl⟩
      have HN := Lib.hid hN
      rw [hN] at hl hal ⊢
      clear hN
      have h8 : (0 : Int) ≤ (a : Int) := by omega
      go_enter Try.func51, Try.ntmps51
      go_wp2
      go_loop [7] (fun s => ∃ (j : Nat), j ≤ 8 ∧ s = .int .i64 j ∧ Hid (M.onesF x (8 - j) j = M.ones x)) (fun s => 8 - (intOf s).toNat)
      case atStart => exact ⟨0, by omega, rfl, rfl⟩
      case round =>
        obtain ⟨j, hj, rfl, ho⟩ := hrel
        have fin : ∀ hkj : j = k, True := fun _ => trivial
        by_cases hgo : j < 8 ∧ ¬ x * 2 ^ j % 256 < 128
        · obtain ⟨hj8, hbit⟩ := hgo
          have hby := bit_yes x j hx hj8 hbit
          have HO : Hid (M.onesF x (8 - (j + 1)) (j + 1) = M.ones x) := by show _ = _; rw [← ho.out, ← M.onesF_no x _ j hbit]; congr 1; omega
          clear hbit
          have e7 : (7 : Int) - (j : Int) = ((7 - j : Nat) : Int) := by omega
          go_wp2
          go_round
          case rel => exact ⟨j + 1, by omega, by go_num, HO⟩
          case measure => simp [intOf]; omega
        · have hjk : Hid (j = k) := by
            show _ = _
            rw [← HKX.out, ← ho.out]
            by_cases h : j < 8
            · exact (M.onesF_yes x _ j (Decidable.not_not.1 fun hn => hgo ⟨h, hn⟩) (by omega)).symm
            · obtain rfl : j = 8 := by omega
              rfl
          obtain rfl := hjk.out
          clear hjk
          by_cases hs : N - (a + 1) < j
          · have HT : Hid (M.takeN l a = none) := takeN_short l a (by rw [HN.out]; exact hal) (by rw [HN.out, HK.out]; exact hs)
            by_cases h : j < 8
            · have hbn := bit_no x j hx h (Decidable.not_not.1 fun hn => hgo ⟨h, hn⟩)
              have e7 : (7 : Int) - (j : Int) = ((7 - j : Nat) : Int) := by omega
              clear hgo
              go_wp2
              go_ret3
              rw [HT.out]
              exact ⟨rfl, Below.refl _ _⟩
            · clear hgo
              go_wp2
              go_ret3
              rw [HT.out]
              exact ⟨rfl, Below.refl _ _⟩
          · by_cases h7 : j < 7
            · have hbn := bit_no x j hx (by omega) (Decidable.not_not.1 fun hn => hgo ⟨by omega, hn⟩)
              have e7 : (7 : Int) - (j : Int) = ((7 - j : Nat) : Int) := by omega
              have hm := mask_num x j hx HKX.out h7
              clear hgo
              go_wp2
              have e7w : IntKind.i64.wrap ((7 : Int) - (j : Int)) = ((7 - j : Nat) : Int) := by rw [IntWalk.i64_in _ (by omega)]; exact e7
              have hp : (2 : Int) ^ (7 - j) ≤ 128 := by
                have : ∀ j, j < 7 → (2 : Int) ^ (7 - j) ≤ 128 := by decide
                exact this j h7
              have hp1 : (1 : Int) ≤ 2 ^ (7 - j) := by
                have : ∀ j, j < 7 → (1 : Int) ≤ 2 ^ (7 - j) := by decide
                exact this j h7
              have ew1 : IntKind.u64.wrap ((2 : Int) ^ (7 - j)) = 2 ^ (7 - j) := by rw [IntKind.wrap_u64]; omega
              have ew2 : IntKind.u64.wrap ((2 : Int) ^ (7 - j) - 1) = 2 ^ (7 - j) - 1 := by rw [IntKind.wrap_u64]; omega
              have hi0 : (a : Int) < (N : Int) := by omega
              go_quiet (fail)
              go_wp2
              have hBW := below_drewN (Below.refl w.heap.size w) nq
              generalize w.drewN nq = W at *
              clear hm ew1 ew2 e7w hp hp1 hbn hca
              go_loop [8, 9] (fun s i => ∃ (q : Nat) (V : Int), q ≤ j ∧ i = .int .i64 ((q : Int) + 1) ∧ s = .int .u64 V ∧ Hid (V = ((M.rawN l a q : Nat) : Int))) (fun _ i => j + 1 - (intOf i).toNat)
              case atStart => exact ⟨0, _, by omega, rfl, rfl, hraw0.out⟩
              case round =>
                obtain ⟨q, V, hq, rfl, rfl, hV⟩ := hrel
                by_cases hlt : q < j
                · have hlen : a + 1 + q < l.length := by rw [HN.out]; omega
                  have hcell := (hBW.cell (p := ⟨b, off + (a + (q + 1)), none⟩) hb).trans ((by rw [show a + (q + 1) = a + 1 + q by omega] : w.cell? ⟨b, off + (a + (q + 1)), none⟩ = w.cell? ⟨b, off + (a + 1 + q), none⟩).trans (HC.out (a + 1 + q) hlen))
                  have hy : l[a + 1 + q]?.getD 0 < 256 := by rw [List.getElem?_eq_getElem hlen]; exact H256.out _ (List.getElem_mem hlen)
                  have hvl : M.rawN l a q < 72057594037927936 := by
                    refine Nat.lt_of_lt_of_le (rawN_lt l H256.out a q (by rw [HN.out]; exact hal)) ?_
                    rw [HK.out]
                    exact Nat.pow_le_pow_right (n := 2) (by decide) (show 7 - j + 8 * q ≤ 56 by omega)
                  have hor := or_num _ _ hvl hy
                  rw [← rawN_succ l a q hlen, ← hV.out] at hor
                  obtain ⟨V2, hV2⟩ : ∃ V2 : Int, ((M.rawN l a (q + 1) : Nat) : Int) = V2 := ⟨_, rfl⟩
                  rw [hV2] at hor
                  have HV2 := Lib.hid hV2
                  have hwr : IntKind.u64.wrap (V * 256) = V * 256 := by rw [IntKind.wrap_u64, hV.out]; omega
                  obtain ⟨y, hye⟩ : ∃ y, l[a + 1 + q]?.getD 0 = y := ⟨_, rfl⟩
                  rw [hye] at hcell hy hor
                  clear hye hV2 hvl hlen
                  have hi1 : (a : Int) + ((q : Int) + 1) < (N : Int) := by omega
                  go_wp2
                  go_round
                  case rel => exact ⟨q + 1, V2, by omega, by go_num, rfl, HV2.out.symm⟩
                  case measure => simp [intOf]; omega
                · obtain rfl : q = j := by omega
                  have hrn : M.rawN l a q < 18446744073709551616 := by
                    refine Nat.lt_of_lt_of_le (rawN_lt l H256.out a q (by rw [HN.out]; exact hal)) ?_
                    rw [HK.out]
                    exact Nat.pow_le_pow_right (n := 2) (by decide) (show 7 - q + 8 * q ≤ 64 by omega)
                  have hfol := fun w => follow_any (M.rawN l a q) w hrn
                  rw [← hV.out] at hfol
                  by_cases hf : M.fol (M.rawN l a q) = q
                  · have HT : Hid (M.takeN l a = some (M.rawN l a q, a + 1 + q)) := takeN_yes l a q (by rw [HN.out]; exact hal) HK.out (by rw [HN.out]; exact hs) hf
                    rw [hf] at hfol
                    have hne : ((q : Int) != (q : Int)) = false := by simp
                    clear hf hrn
                    go_wp2_with (go_at_call 59; refine (hfol _).mono ?_; rintro e w' ⟨rfl, rfl⟩)
                    go_ret3
                    rw [HT.out]
                    exact ⟨by rw [hV.out, numR, show ((a + 1 + q : Nat) : Int) = (a : Int) + q + 1 by omega]; rfl, hBW⟩
                  · have HT : Hid (M.takeN l a = none) := takeN_not l a q (by rw [HN.out]; exact hal) HK.out (by rw [HN.out]; exact hs) hf
                    have hne : (((M.fol (M.rawN l a q) : Nat) : Int) != (q : Int)) = true := by simp; omega
                    clear hf hrn
                    go_wp2_with (go_at_call 59; refine (hfol _).mono ?_; rintro e w' ⟨rfl, rfl⟩)
                    go_ret3
                    rw [HT.out]
                    exact ⟨rfl, hBW⟩
            · have hz := rest_zero x j hx HKX.out h7
              have hst : Hid ((0 : Int) = ((M.rawN l a 0 : Nat) : Int)) := by show _ = _; rw [← hraw0.out, hz]; rfl
              have hBW := Below.refl w.heap.size w
              by_cases h : j < 8
              · have hbn := bit_no x j hx h (Decidable.not_not.1 fun hn => hgo ⟨h, hn⟩)
                have e7 : (7 : Int) - (j : Int) = ((7 - j : Nat) : Int) := by omega
                clear hgo
                go_wp2
                clear hbn hca hz
                go_loop [8, 9] (fun s i => ∃ (q : Nat) (V : Int), q ≤ j ∧ i = .int .i64 ((q : Int) + 1) ∧ s = .int .u64 V ∧ Hid (V = ((M.rawN l a q : Nat) : Int))) (fun _ i => j + 1 - (intOf i).toNat)
                case atStart => exact ⟨0, _, by omega, rfl, rfl, hst⟩
                case round =>
                  obtain ⟨q, V, hq, rfl, rfl, hV⟩ := hrel
                  by_cases hlt : q < j
                  · have hlen : a + 1 + q < l.length := by rw [HN.out]; omega
                    have hcell := (hBW.cell (p := ⟨b, off + (a + (q + 1)), none⟩) hb).trans ((by rw [show a + (q + 1) = a + 1 + q by omega] : w.cell? ⟨b, off + (a + (q + 1)), none⟩ = w.cell? ⟨b, off + (a + 1 + q), none⟩).trans (HC.out (a + 1 + q) hlen))
                    have hy : l[a + 1 + q]?.getD 0 < 256 := by rw [List.getElem?_eq_getElem hlen]; exact H256.out _ (List.getElem_mem hlen)
                    have hvl : M.rawN l a q < 72057594037927936 := by
                      refine Nat.lt_of_lt_of_le (rawN_lt l H256.out a q (by rw [HN.out]; exact hal)) ?_
                      rw [HK.out]
                      exact Nat.pow_le_pow_right (n := 2) (by decide) (show 7 - j + 8 * q ≤ 56 by omega)
                    have hor := or_num _ _ hvl hy
                    rw [← rawN_succ l a q hlen, ← hV.out] at hor
                    obtain ⟨V2, hV2⟩ : ∃ V2 : Int, ((M.rawN l a (q + 1) : Nat) : Int) = V2 := ⟨_, rfl⟩
                    rw [hV2] at hor
                    have HV2 := Lib.hid hV2
                    have hwr : IntKind.u64.wrap (V * 256) = V * 256 := by rw [IntKind.wrap_u64, hV.out]; omega
                    obtain ⟨y, hye⟩ : ∃ y, l[a + 1 + q]?.getD 0 = y := ⟨_, rfl⟩
                    rw [hye] at hcell hy hor
                    clear hye hV2 hvl hlen
                    have hi1 : (a : Int) + ((q : Int) + 1) < (N : Int) := by omega
                    go_wp2
                    go_round
                    case rel => exact ⟨q + 1, V2, by omega, by go_num, rfl, HV2.out.symm⟩
                    case measure => simp [intOf]; omega
                  · obtain rfl : q = j := by omega
                    have hrn : M.rawN l a q < 18446744073709551616 := by
                      refine Nat.lt_of_lt_of_le (rawN_lt l H256.out a q (by rw [HN.out]; exact hal)) ?_
                      rw [HK.out]
                      exact Nat.pow_le_pow_right (n := 2) (by decide) (show 7 - q + 8 * q ≤ 64 by omega)
                    have hfol := fun w => follow_any (M.rawN l a q) w hrn
                    rw [← hV.out] at hfol
                    by_cases hf : M.fol (M.rawN l a q) = q
                    · have HT : Hid (M.takeN l a = some (M.rawN l a q, a + 1 + q)) := takeN_yes l a q (by rw [HN.out]; exact hal) HK.out (by rw [HN.out]; exact hs) hf
                      rw [hf] at hfol
                      have hne : ((q : Int) != (q : Int)) = false := by simp
                      clear hf hrn
                      go_wp2_with (go_at_call 59; refine (hfol _).mono ?_; rintro e w' ⟨rfl, rfl⟩)
                      go_ret3
                      rw [HT.out]
                      exact ⟨by rw [hV.out, numR, show ((a + 1 + q : Nat) : Int) = (a : Int) + q + 1 by omega]; rfl, hBW⟩
                    · have HT : Hid (M.takeN l a = none) := takeN_not l a q (by rw [HN.out]; exact hal) HK.out (by rw [HN.out]; exact hs) hf
                      have hne : (((M.fol (M.rawN l a q) : Nat) : Int) != (q : Int)) = true := by simp; omega
                      clear hf hrn
                      go_wp2_with (go_at_call 59; refine (hfol _).mono ?_; rintro e w' ⟨rfl, rfl⟩)
                      go_ret3
                      rw [HT.out]
                      exact ⟨rfl, hBW⟩
              · clear hgo
                go_wp2
                clear hca hz
                go_loop [8, 9] (fun s i => ∃ (q : Nat) (V : Int), q ≤ j ∧ i = .int .i64 ((q : Int) + 1) ∧ s = .int .u64 V ∧ Hid (V = ((M.rawN l a q : Nat) : Int))) (fun _ i => j + 1 - (intOf i).toNat)
                case atStart => exact ⟨0, _, by omega, rfl, rfl, hst⟩
                case round =>
                  obtain ⟨q, V, hq, rfl, rfl, hV⟩ := hrel
                  by_cases hlt : q < j
                  · have hlen : a + 1 + q < l.length := by rw [HN.out]; omega
                    have hcell := (hBW.cell (p := ⟨b, off + (a + (q + 1)), none⟩) hb).trans ((by rw [show a + (q + 1) = a + 1 + q by omega] : w.cell? ⟨b, off + (a + (q + 1)), none⟩ = w.cell? ⟨b, off + (a + 1 + q), none⟩).trans (HC.out (a + 1 + q) hlen))
                    have hy : l[a + 1 + q]?.getD 0 < 256 := by rw [List.getElem?_eq_getElem hlen]; exact H256.out _ (List.getElem_mem hlen)
                    have hvl : M.rawN l a q < 72057594037927936 := by
                      refine Nat.lt_of_lt_of_le (rawN_lt l H256.out a q (by rw [HN.out]; exact hal)) ?_
                      rw [HK.out]
                      exact Nat.pow_le_pow_right (n := 2) (by decide) (show 7 - j + 8 * q ≤ 56 by omega)
                    have hor := or_num _ _ hvl hy
                    rw [← rawN_succ l a q hlen, ← hV.out] at hor
                    obtain ⟨V2, hV2⟩ : ∃ V2 : Int, ((M.rawN l a (q + 1) : Nat) : Int) = V2 := ⟨_, rfl⟩
                    rw [hV2] at hor
                    have HV2 := Lib.hid hV2
                    have hwr : IntKind.u64.wrap (V * 256) = V * 256 := by rw [IntKind.wrap_u64, hV.out]; omega
                    obtain ⟨y, hye⟩ : ∃ y, l[a + 1 + q]?.getD 0 = y := ⟨_, rfl⟩
                    rw [hye] at hcell hy hor
                    clear hye hV2 hvl hlen
                    have hi1 : (a : Int) + ((q : Int) + 1) < (N : Int) := by omega
                    go_wp2
                    go_round
                    case rel => exact ⟨q + 1, V2, by omega, by go_num, rfl, HV2.out.symm⟩
                    case measure => simp [intOf]; omega
                  · obtain rfl : q = j := by omega
                    have hrn : M.rawN l a q < 18446744073709551616 := by
                      refine Nat.lt_of_lt_of_le (rawN_lt l H256.out a q (by rw [HN.out]; exact hal)) ?_
                      rw [HK.out]
                      exact Nat.pow_le_pow_right (n := 2) (by decide) (show 7 - q + 8 * q ≤ 64 by omega)
                    have hfol := fun w => follow_any (M.rawN l a q) w hrn
                    rw [← hV.out] at hfol
                    by_cases hf : M.fol (M.rawN l a q) = q
                    · have HT : Hid (M.takeN l a = some (M.rawN l a q, a + 1 + q)) := takeN_yes l a q (by rw [HN.out]; exact hal) HK.out (by rw [HN.out]; exact hs) hf
                      rw [hf] at hfol
                      have hne : ((q : Int) != (q : Int)) = false := by simp
                      clear hf hrn
                      go_wp2_with (go_at_call 59; refine (hfol _).mono ?_; rintro e w' ⟨rfl, rfl⟩)
                      go_ret3
                      rw [HT.out]
                      exact ⟨by rw [hV.out, numR, show ((a + 1 + q : Nat) : Int) = (a : Int) + q + 1 by omega]; rfl, hBW⟩
                    · have HT : Hid (M.takeN l a = none) := takeN_not l a q (by rw [HN.out]; exact hal) HK.out (by rw [HN.out]; exact hs) hf
                      have hne : (((M.fol (M.rawN l a q) : Nat) : Int) != (q : Int)) = true := by simp; omega
                      clear hf hrn
                      go_wp2_with (go_at_call 59; refine (hfol _).mono ?_; rintro e w' ⟨rfl, rfl⟩)
                      go_ret3
                      rw [HT.out]
                      exact ⟨rfl, hBW⟩

set_option maxRecDepth 100000 in
set_option maxHeartbeats 1600000 in
theorem rtakeText_any (A : Option Addr) (c : Nat) (l : List Nat) (a m : Int) (w : World) (hr : Row w w.heap.size A l) (hcap : l.length ≤ c) (hl : l.length ≤ 281474976710656) (ha1 : -9223372036854775808 ≤ a) (ha2 : a ≤ 9223372036854775807) (hm1 : -9223372036854775808 ≤ m) (hm2 : m ≤ 9223372036854775807) :
    Calls Try.prog 52 #[.slice A l.length c, .int .i64 a, .int .i64 m] w fun e w' => e = .returned (txtR (M.takeT l a m)) ∧ Below w.heap.size w w' := by
  have hnum := rtakeNumber_any A c l a w hr hl ha1 ha2
  cases hT : M.takeN l a with
  | none =>
    have HT : Hid (M.takeT l a m = none) := by show _ = _; unfold M.takeT; rw [hT]
    rw [hT] at hnum
    simp only [numR] at hnum
    clear hT hr hcap
    have hne : ((20 : Int) != 0) = true := rfl
    go_enter Try.func52, Try.ntmps52
    go_wp2_with fail
    refine hnum.mono ?_
    rintro e w1 ⟨rfl, hb⟩
    go_wp2
    go_ret3
    rw [HT.out]
    exact ⟨rfl, hb⟩
  | some np =>
    obtain ⟨n, p⟩ := np
    obtain ⟨h0, hn64, -, hpl, -⟩ := takeN_some hr.1 hT
    rw [hT] at hnum
    simp only [numR] at hnum
    by_cases hA : (n : Int) ≤ m
    · have hm0 : 0 ≤ m := by omega
      have hwm : IntKind.u64.wrap m = m := by rw [IntKind.wrap_u64]; omega
      by_cases hB : p + n ≤ l.length
      · have HT : Hid (M.takeT l a m = some ((l.drop p).take n, p + n)) := by show _ = _; unfold M.takeT; rw [hT]; exact if_pos ⟨hA, hB⟩
        have hsome : ∃ b off, A = some ⟨b, off, none⟩ := by
          have : 0 < l.length := by
            rcases Nat.eq_zero_or_pos l.length with h | h
            · rw [List.eq_nil_of_length_eq_zero h] at hT
              unfold M.takeN at hT
              simp [M.parse] at hT
            · exact h
          obtain ⟨b, off, e, _⟩ := hr.2 this
          exact ⟨b, off, e⟩
        obtain ⟨b, off, rfl⟩ := hsome
        have hst : ∀ W, Below w.heap.size w W → ∀ c, (convert 43 9 (.slice (some ⟨b, off + p, none⟩) n c)).run Try.prog W = .ok (.string (strB ((l.drop p).take n))) W := by
          intro W hW c
          have := run_str _ c ((l.drop p).take n) W W.heap.size ((hr.up hW).sub p n)
          rwa [List.length_take, List.length_drop, Nat.min_eq_left (by omega)] at this
        obtain ⟨S, hS⟩ : ∃ S, strB ((l.drop p).take n) = S := ⟨_, rfl⟩
        rw [hS] at hst
        have HS := Lib.hid hS
        have HST := Lib.hid hst
        have e1 : p + n - p = n := by omega
        have hnn : n ≤ 281474976710656 := by omega
        have hemp : ∀ W a, (convert 43 9 (.slice a 0 0)).run Try.prog W = .ok (.string (strB [])) W := fun W a => run_str a 0 [] W 0 (Row.none_ _ _ _)
        obtain ⟨N, hN⟩ : ∃ N, l.length = N := ⟨_, rfl⟩
        have HN := Lib.hid hN
        rw [hN] at hnum hcap hl hpl hB ⊢
        have HB := Lib.hid hB
        have hpn : (p : Int) + (n : Int) ≤ (c : Int) := by omega
        have hpN : (p : Int) + (n : Int) ≤ (N : Int) := by omega
        have hg1 : ¬ m < (n : Int) := by omega
        have hg2 : ¬ (N : Int) - (p : Int) < (n : Int) := by omega
        have hwl : IntKind.u64.wrap ((N : Int) - (p : Int)) = (N : Int) - (p : Int) := by rw [IntKind.wrap_u64]; omega
        clear hB hT hr hst hN hn64
        by_cases hpc : p < c
        · have hpc2 : ¬ c = p := by omega
          clear hS hemp
          go_enter Try.func52, Try.ntmps52
          go_wp2_with fail
          refine hnum.mono ?_
          rintro e w1 ⟨rfl, hb⟩
          have hst := HST.out _ hb
          go_wp2
          go_ret3
          rw [HT.out]
          exact ⟨by rw [← HS.out]; rfl, hb⟩
        · have hn0 : n = 0 := by have := HB.out; omega
          subst hn0
          have hpc2 : c = p := by have := HB.out; omega
          subst hpc2
          have hS0 : strB [] = S := by rw [← hS]; simp
          rw [hS0] at hemp
          clear hS hS0
          go_enter Try.func52, Try.ntmps52
          go_wp2_with fail
          refine hnum.mono ?_
          rintro e w1 ⟨rfl, hb⟩
          have hst := HST.out _ hb
          go_wp2
          go_ret3
          rw [HT.out]
          exact ⟨by rw [← HS.out]; rfl, hb⟩
      · have HT : Hid (M.takeT l a m = none) := by show _ = _; unfold M.takeT; rw [hT]; exact if_neg fun h => hB h.2
        obtain ⟨V, hV⟩ : ∃ V : Int, (n : Int) = V := ⟨_, rfl⟩
        have hg1 : ¬ m < V := by omega
        have hg2 : (l.length : Int) - (p : Int) < V := by omega
        have hwl : IntKind.u64.wrap ((l.length : Int) - (p : Int)) = (l.length : Int) - (p : Int) := by rw [IntKind.wrap_u64]; omega
        rw [hV] at hnum
        clear hV hn64 hB hT hr hA
        go_enter Try.func52, Try.ntmps52
        go_wp2_with fail
        refine hnum.mono ?_
        rintro e w1 ⟨rfl, hb⟩
        go_wp2
        go_ret3
        rw [HT.out]
        exact ⟨rfl, hb⟩
    · have HT : Hid (M.takeT l a m = none) := by show _ = _; unfold M.takeT; rw [hT]; exact if_neg fun h => hA h.1
      obtain ⟨V, hV⟩ : ∃ V : Int, (n : Int) = V := ⟨_, rfl⟩
      rw [hV] at hnum hA
      clear hV hn64 hT hr
      by_cases hm0 : m < 0
      · clear hA
        go_enter Try.func52, Try.ntmps52
        go_wp2_with fail
        refine hnum.mono ?_
        rintro e w1 ⟨rfl, hb⟩
        go_wp2
        go_ret3
        rw [HT.out]
        exact ⟨rfl, hb⟩
      · have hwm : IntKind.u64.wrap m = m := by rw [IntKind.wrap_u64]; omega
        have hg1 : m < V := by omega
        clear hA
        go_enter Try.func52, Try.ntmps52
        go_wp2_with fail
        refine hnum.mono ?_
        rintro e w1 ⟨rfl, hb⟩
        go_wp2
        go_ret3
        rw [HT.out]
        exact ⟨rfl, hb⟩

end Go.Proofs.Ytadcmljcbmfcaaa.Wi
