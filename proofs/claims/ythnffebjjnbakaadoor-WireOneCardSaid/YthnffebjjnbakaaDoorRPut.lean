/-
  The reference's Number, Text, Seal.
-/
import Derived.Test.YthnffebjjnbakaaDoorRTake
namespace Go.Proofs.YthnffebjjnbakaaDoor
open Go.RowKit

theorem lead_or_next (i : Nat) (h : i < 8) : bits .or .u8 ((M.lead i : Nat) : Int) (128 / 2 ^ i) = ((M.lead (i + 1) : Nat) : Int) := by
  have : ∀ i, i < 8 → bits .or .u8 ((M.lead i : Nat) : Int) (128 / 2 ^ i) = ((M.lead (i + 1) : Nat) : Int) := by decide +kernel
  exact this i h
theorem row_one (w : World) (x : Nat) (hx : x < 256) : Row (w.alloc (.cells #[.int .u8 (x : Int)] 5)) (w.heap.size + 1) (some ⟨w.heap.size, 0, none⟩) [x] :=
  Blok.row (g := w.heap.size) (l := [x]) (by have := Blok.new w 5 (cellsB [x]); simpa [cellsB] using this) (by simpa using hx) (by omega)
/-- append(out, x): one byte, in a block of its own. -/
theorem OwnB.one {w : World} {base g cap : Nat} {l : List Nat} (h : OwnB w base g cap l) (x : Nat) (hx : x < 256) (ty : TypeId) (hb : l.length ≤ 199999999999999) (hbase : base ≤ w.heap.size) :
    ∃ g' cap' w', (Builtin.append_ #[22, 22] ty #[.slice (some ⟨g, 0, none⟩) l.length cap, .slice (some ⟨w.heap.size, 0, none⟩) 1 1]).run Tryd.prog (w.alloc (.cells #[.int .u8 (x : Int)] 5)) = .ok (.slice (some ⟨g', 0, none⟩) (l.length + 1) cap') w' ∧ OwnB w' base g' cap' (l ++ [x]) ∧ Below base w w' := by
  obtain ⟨g', cap', w', h1, h2, h3⟩ := (h.alloc (.cells #[.int .u8 (x : Int)] 5)).append (some ⟨w.heap.size, 0, none⟩) 1 [x] _ (row_one w x hx) ty (by simp; omega) (by simp; omega)
  exact ⟨g', cap', w', h1, h2, ((Below.refl _ w).alloc hbase _).grown h3 (by simp; omega) (by rintro k e; cases e; exact h.lt.1)⟩

set_option maxRecDepth 100000 in
set_option maxHeartbeats 1600000 in
theorem rnumber_any (A : Option Addr) (c : Nat) (l : List Nat) (n : Nat) (w : World) (hr : Row w w.heap.size A l) (hl : l.length ≤ 199999999999900) (hn : n < 18446744073709551616) :
    Calls Tryd.prog 15 #[.slice A l.length c, .int .u64 n] w (Owned (l ++ M.code n) w) := by
  obtain ⟨X, hX, hmk⟩ := make_cap (l.length + 9) (by omega) w
  have ec : ((l.length + 9 : Nat) : Int) = (l.length : Int) + 9 := by omega
  rw [ec] at hmk
  clear ec
  have hO0 : OwnB (w.alloc (.cells X 5)) w.heap.size w.heap.size (l.length + 9) [] := OwnB.of X (Nat.le_refl _) (heap_alloc_new w _) (by simp) (by unfold maxLen; omega) hX (by simp [cellsB])
  obtain ⟨w1, hap, hO1, hg1⟩ := hO0.fits A c l w.heap.size (hr.below ((Below.refl _ w).alloc (Nat.le_refl _) _)) 22 (by simp)
  have hB1 : Below w.heap.size w w1 := ((Below.refl _ w).alloc (Nat.le_refl _) _).grown hg1 (by simp) (by rintro j e; cases e; exact Nat.le_refl _)
  rw [List.nil_append] at hO1
  simp only [List.length_nil, Nat.zero_add] at hap
  have hfol := fun w => follow_any n w hn
  have hk8 := M.fol_le n
  have htop := M.top_lt n hn
  obtain ⟨k, hk⟩ : ∃ k, M.fol n = k := ⟨_, rfl⟩
  have HCO : Hid (M.code n = (M.lead k + n / 256 ^ k) :: M.be n k) := by show _ = _; rw [← hk]; rfl
  rw [hk] at hfol hk8 htop
  obtain ⟨V, hV⟩ : ∃ V : Int, (n : Int) = V := ⟨_, rfl⟩
  have HV := Lib.hid hV
  have HTOP := Lib.hid htop
  rw [hV] at hfol ⊢
  have HAP := Lib.hid hap
  have HO1 := Lib.hid hO1
  clear hV hn hk hap hO1 hO0 hg1 hX htop hr
  go_enter Tryd.func15, Tryd.ntmps15
  go_wp2_with (first
    | (at_builtin; refine wpList_append_run rfl _ _ _ _ rfl _ _ rfl rfl HAP.out ?_)
    | (go_at_call 29; refine (hfol _).mono ?_; rintro e w' ⟨rfl, rfl⟩))
  go_loop [7, 8] (fun s i => ∃ (q : Nat), q ≤ k ∧ i = .int .i64 q ∧ s = .int .u8 (M.lead q)) (fun _ i => k - (intOf i).toNat)
  case atStart => exact ⟨0, by omega, rfl, rfl⟩
  case round =>
    obtain ⟨q, hq, rfl, rfl⟩ := hrel
    by_cases hlt : q < k
    · have hor := lead_or_next q (by omega)
      go_wp2
      go_round
      case rel => exact ⟨q + 1, by omega, by go_num, rfl⟩
      case measure => simp [intOf]; omega
    · obtain rfl : q = k := by omega
      obtain ⟨F, hF⟩ : ∃ F, M.lead q + n / 256 ^ q = F := ⟨_, rfl⟩
      have hF256 : F < 256 := by rw [← hF]; exact M.lead_add_lt q _ hk8 HTOP.out
      have hor : q < 8 → bits .or .u8 ((M.lead q : Nat) : Int) (V / 2 ^ (8 * q) % 256) = (F : Int) := by
        intro _
        have hs : n / 256 ^ q < 256 := Nat.lt_of_le_of_lt (Nat.le_add_left _ (M.lead q)) (M.lead_add_lt q _ hk8 HTOP.out)
        rw [← HV.out, byte_num, Nat.mod_eq_of_lt hs, u8_or_nat _ _ (M.lead_lt q) hs, M.lead_or q _ hk8 HTOP.out, hF]
      have h88 : ¬ q < 8 → M.lead q = F := by
        intro h
        obtain rfl : q = 8 := by omega
        rw [← hF]
        have : n / 256 ^ 8 < 2 ^ (7 - 8) := HTOP.out
        rw [show 7 - 8 = 0 from rfl] at this
        omega
      obtain ⟨g2, cap2, w2, hap2, hO2, hB2⟩ := HO1.out.one F hF256 22 (by omega) hB1.size
      have HAP2 := Lib.hid hap2
      have HO2 := Lib.hid hO2
      have hB2' : Below w.heap.size w w2 := hB1.trans hB2
      have HF := Lib.hid hF
      clear hap2 hO2 hB2 hF
      by_cases h8 : q < 8
      · have hor2 := hor h8
        clear hor h88 hfol hmk
        go_wp2_with (at_builtin; refine wpList_append_run rfl _ _ _ _ rfl _ _ rfl rfl HAP2.out ?_)
        go_loopw [5, 9] (fun o i wr => ∃ (m : Nat) (L : List Nat) (g cap : Nat) (I : Int), m ≤ 8 ∧ L.length + m ≤ l.length + 9 ∧ o = .slice (some ⟨g, 0, none⟩) L.length cap ∧ i = .int .i64 I ∧ Hid (I = (m : Int) - 1) ∧ Hid (L ++ M.be n m = l ++ M.code n) ∧ Hid (OwnB wr w.heap.size g cap L) ∧ Below w.heap.size w wr) (fun _ i _ => (intOf i + 1).toNat)
        case atStart => exact ⟨q, l ++ [F], g2, cap2, _, hk8, by simp; omega, by simp, rfl, rfl, by show _ = _; rw [HCO.out, HF.out]; simp, HO2, hB2'⟩
        case round =>
          obtain ⟨m, L, g, cap, I, hm, hLm, rfl, rfl, hI, hL, hO, hB⟩ := hrel
          by_cases h0 : m = 0
          · have hneg : ¬ 0 ≤ I := by have := hI.out; omega
            have HLE : Hid (L = l ++ M.code n) := by show _ = _; rw [← hL.out, h0]; simp [M.be]
            go_wp2
            go_ret
            rw [← HLE.out]
            exact ⟨g, cap, rfl, hO.out, hB⟩
          · obtain ⟨m, rfl⟩ : ∃ m', m = m' + 1 := ⟨m - 1, by omega⟩
            obtain ⟨i, rfl⟩ : ∃ i : Nat, I = i := ⟨I.toNat, by have := hI.out; omega⟩
            have him : Hid (i = m) := by show _ = _; have := hI.out; omega
            obtain rfl := him.out
            have hbv : Hid (V / 2 ^ (8 * i) % 256 = ((n / 256 ^ i % 256 : Nat) : Int)) := by show _ = _; rw [← HV.out, byte_num]
            have hbe : Hid ((L ++ [n / 256 ^ i % 256]) ++ M.be n i = l ++ M.code n) := by show _ = _; rw [← hL.out]; simp [M.be]
            have hb2 := hbv.out
            obtain ⟨y, hy⟩ : ∃ y, n / 256 ^ i % 256 = y := ⟨_, rfl⟩
            have hy256 : y < 256 := by rw [← hy]; exact Nat.mod_lt _ (by decide)
            rw [hy] at hb2 hbe
            obtain ⟨g3, cap3, w3, hap3, hO3, hB3⟩ := hO.out.one y hy256 22 (by omega) hB.size
            have HAP3 := Lib.hid hap3
            have HO3 := Lib.hid hO3
            have hB3' : Below w.heap.size w w3 := hB.trans hB3
            clear hap3 hO3 hB3 hy h0 him hbv
            go_wp2_with (at_builtin; refine wpList_append_run rfl _ _ _ _ rfl _ _ rfl rfl HAP3.out ?_)
            go_round
            case rel => exact ⟨i, L ++ [y], g3, cap3, _, by omega, by simp; omega, by simp, rfl, by show _ = _; rfl, hbe, HO3, hB3'⟩
            case measure => simp [intOf]
      · have h882 := h88 h8
        clear hor h88 hfol hmk
        rw [h882]
        clear h882
        go_wp2_with (at_builtin; refine wpList_append_run rfl _ _ _ _ rfl _ _ rfl rfl HAP2.out ?_)
        go_loopw [5, 9] (fun o i wr => ∃ (m : Nat) (L : List Nat) (g cap : Nat) (I : Int), m ≤ 8 ∧ L.length + m ≤ l.length + 9 ∧ o = .slice (some ⟨g, 0, none⟩) L.length cap ∧ i = .int .i64 I ∧ Hid (I = (m : Int) - 1) ∧ Hid (L ++ M.be n m = l ++ M.code n) ∧ Hid (OwnB wr w.heap.size g cap L) ∧ Below w.heap.size w wr) (fun _ i _ => (intOf i + 1).toNat)
        case atStart => exact ⟨q, l ++ [F], g2, cap2, _, hk8, by simp; omega, by simp, rfl, rfl, by show _ = _; rw [HCO.out, HF.out]; simp, HO2, hB2'⟩
        case round =>
          obtain ⟨m, L, g, cap, I, hm, hLm, rfl, rfl, hI, hL, hO, hB⟩ := hrel
          by_cases h0 : m = 0
          · have hneg : ¬ 0 ≤ I := by have := hI.out; omega
            have HLE : Hid (L = l ++ M.code n) := by show _ = _; rw [← hL.out, h0]; simp [M.be]
            go_wp2
            go_ret
            rw [← HLE.out]
            exact ⟨g, cap, rfl, hO.out, hB⟩
          · obtain ⟨m, rfl⟩ : ∃ m', m = m' + 1 := ⟨m - 1, by omega⟩
            obtain ⟨i, rfl⟩ : ∃ i : Nat, I = i := ⟨I.toNat, by have := hI.out; omega⟩
            have him : Hid (i = m) := by show _ = _; have := hI.out; omega
            obtain rfl := him.out
            have hbv : Hid (V / 2 ^ (8 * i) % 256 = ((n / 256 ^ i % 256 : Nat) : Int)) := by show _ = _; rw [← HV.out, byte_num]
            have hbe : Hid ((L ++ [n / 256 ^ i % 256]) ++ M.be n i = l ++ M.code n) := by show _ = _; rw [← hL.out]; simp [M.be]
            have hb2 := hbv.out
            obtain ⟨y, hy⟩ : ∃ y, n / 256 ^ i % 256 = y := ⟨_, rfl⟩
            have hy256 : y < 256 := by rw [← hy]; exact Nat.mod_lt _ (by decide)
            rw [hy] at hb2 hbe
            obtain ⟨g3, cap3, w3, hap3, hO3, hB3⟩ := hO.out.one y hy256 22 (by omega) hB.size
            have HAP3 := Lib.hid hap3
            have HO3 := Lib.hid hO3
            have hB3' : Below w.heap.size w w3 := hB.trans hB3
            clear hap3 hO3 hB3 hy h0 him hbv
            go_wp2_with (at_builtin; refine wpList_append_run rfl _ _ _ _ rfl _ _ rfl rfl HAP3.out ?_)
            go_round
            case rel => exact ⟨i, L ++ [y], g3, cap3, _, by omega, by simp; omega, by simp, rfl, by show _ = _; rfl, hbe, HO3, hB3'⟩
            case measure => simp [intOf]

theorem strCells_byt (s : ByteArray) : Lib.strCells s = cellsB (byt s) := by
  unfold Lib.strCells cellsB byt
  simp
/-- append(out, s...), s a string. -/
theorem OwnB.str {w : World} {base g cap : Nat} {l : List Nat} (h : OwnB w base g cap l) (s : ByteArray) (ty : TypeId) (hb : l.length + s.size ≤ 140737488355328) (hbase : base ≤ w.heap.size) :
    ∃ g' cap' w', (Builtin.append_ #[22, 9] ty #[.slice (some ⟨g, 0, none⟩) l.length cap, .string s]).run Tryd.prog w = .ok (.slice (some ⟨g', 0, none⟩) (l ++ byt s).length cap') w' ∧ OwnB w' base g' cap' (l ++ byt s) ∧ Below base w w' := by
  obtain ⟨i0, hi, hz0, hz1, hz2⟩ := info_parts info5
  obtain ⟨v', w', hrun, ho, hg, hn⟩ := Lib.run_append_own_string (P := Tryd.prog) w base 22 9 ty 5 i0 Tryd.underlying22 Tryd.underlying9 hi hz0 hz1 hz2 _ _ _ h s (by unfold maxLen; omega) hb hbase
  rw [strCells_byt, ← byt_length] at ho
  rcases ho.2 with ⟨e, _⟩ | ⟨g', cap', cur, e, _⟩
  · have := (hn.1 e).1; cases this
  · rw [e] at ho hrun
    refine ⟨g', cap', w', ?_, own_app ho, (Below.refl _ w).grown hg hbase (by rintro k e; cases e; exact h.lt.1)⟩
    rw [hrun, List.length_append]

set_option maxRecDepth 100000 in
set_option maxHeartbeats 1600000 in
theorem rtext_any (A : Option Addr) (c : Nat) (l : List Nat) (s : ByteArray) (w : World) (hr : Row w w.heap.size A l) (hl : l.length + s.size ≤ 140737488355300) :
    Calls Tryd.prog 19 #[.slice A l.length c, .string s] w (Owned (l ++ (M.code s.size ++ byt s)) w) := by
  have hnum := rnumber_any A c l s.size w hr (by omega) (by omega)
  have hlen := M.code_len s.size
  have hLl : (l ++ M.code s.size).length + s.size ≤ 140737488355328 := by rw [List.length_append]; omega
  rw [show l ++ (M.code s.size ++ byt s) = (l ++ M.code s.size) ++ byt s by simp]
  obtain ⟨L, hL⟩ : ∃ L, l ++ M.code s.size = L := ⟨_, rfl⟩
  rw [hL] at hnum hLl ⊢
  clear hr hL
  go_enter Tryd.func19, Tryd.ntmps19
  go_wp2_with fail
  refine hnum.mono ?_
  rintro e w1 ⟨g, cap, rfl, ho, hb1⟩
  obtain ⟨g2, cap2, w2, hap, hO2, hB2⟩ := ho.str s 22 hLl hb1.size
  obtain ⟨R, hR⟩ : ∃ R, L ++ byt s = R := ⟨_, rfl⟩
  rw [hR] at hap hO2
  have HAP := Lib.hid hap
  have HO2 := Lib.hid hO2
  have HB : Hid (Below w.heap.size w w2) := hb1.trans hB2
  have HR := Lib.hid hR
  clear hap hO2 hB2 ho hb1 hR
  go_wp2_with (at_builtin; refine wpList_append_run rfl _ _ _ _ rfl _ _ rfl rfl HAP.out ?_)
  go_ret
  rw [HR.out]
  exact ⟨g2, cap2, rfl, HO2.out, HB.out⟩

theorem row_four (w : World) (a b c d : Nat) (ha : a < 256) (hb : b < 256) (hc : c < 256) (hd : d < 256) : Row (w.alloc (.cells #[.int .u8 (a : Int), .int .u8 (b : Int), .int .u8 (c : Int), .int .u8 (d : Int)] 5)) (w.heap.size + 1) (some ⟨w.heap.size, 0, none⟩) [a, b, c, d] :=
  Blok.row (g := w.heap.size) (l := [a, b, c, d]) (by have := Blok.new w 5 (cellsB [a, b, c, d]); simpa [cellsB] using this) (by
    intro x hx
    simp only [List.mem_cons, List.not_mem_nil, or_false] at hx
    omega) (by omega)

theorem build_four (a b c d : Int) (w : World) : (Instr.buildSlice 22 4 #[(0, .int .u8 a), (1, .int .u8 b), (2, .int .u8 c), (3, .int .u8 d)]).run Tryd.prog w = .ok (.slice (some ⟨w.heap.size, 0, none⟩) 4 4) (w.alloc (.cells #[.int .u8 a, .int .u8 b, .int .u8 c, .int .u8 d] 5)) := by
  kernel_rfl

set_option maxRecDepth 100000 in
set_option maxHeartbeats 1600000 in
theorem rseal_any (k : Nat) (s : ByteArray) (w : World) (hk : k < 256) (hl : s.size ≤ 140737488355000) :
    Calls Tryd.prog 25 #[.int .u8 k, .string s] w fun e w' => e = .returned (.string (strB (M.sealed k (byt s)))) ∧ Below w.heap.size w w' := by
  have hb0 : Below w.heap.size w (w.alloc (.cells #[.int .u8 k] 5)) := (Below.refl _ w).alloc (Nat.le_refl _) _
  have hrk : Row (w.alloc (.cells #[.int .u8 k] 5)) (w.alloc (.cells #[.int .u8 k] 5)).heap.size (some ⟨w.heap.size, 0, none⟩) [k] := by
    have := row_one w k hk
    simpa using this
  have htx := rtext_any (some ⟨w.heap.size, 0, none⟩) 1 [k] s (w.alloc (.cells #[.int .u8 k] 5)) hrk (by simp; omega)
  have hsl : [k] ++ (M.code s.size ++ byt s) = M.head k (byt s) := by unfold M.head; rw [byt_length]; rfl
  rw [hsl] at htx
  have hh256 : Hid (∀ x ∈ M.head k (byt s), x < 256) := M.head_lt k (byt s) hk (byt_lt s) (by rw [byt_length]; omega)
  have hhl : Hid ((M.head k (byt s)).length ≤ 140737488355100) := by show _ ≤ _; rw [M.head_length, byt_length]; have := M.code_len s.size; omega
  have hse : Hid (M.sealed k (byt s) = M.head k (byt s) ++ M.le4 (M.crc (M.head k (byt s)))) := rfl
  obtain ⟨R, hR⟩ : ∃ R, M.head k (byt s) = R := ⟨_, rfl⟩
  obtain ⟨S, hS⟩ : ∃ S, M.sealed k (byt s) = S := ⟨_, rfl⟩
  rw [hR] at htx hh256 hhl hse
  rw [hS] at hse ⊢
  have HB0 := Lib.hid hb0
  simp only [List.length_singleton] at htx
  clear hsl hrk hb0 hR hS
  go_enter Tryd.func25, Tryd.ntmps25
  go_wp2_with fail
  refine htx.mono ?_
  rintro e w1 ⟨g, cap, rfl, ho, hb1⟩
  have hr1 : Row w1 w1.heap.size (some ⟨g, 0, none⟩) R := ho.row hh256.out ho.lt.2
  have hsum := rsum_any (some ⟨g, 0, none⟩) cap R w1 hr1 (by have := hhl.out; omega)
  have hcl := M.crc_lt R hh256.out
  obtain ⟨q, hq⟩ : ∃ q, M.crc R = q := ⟨_, rfl⟩
  rw [hq] at hsum hcl hse
  have HB1 : Hid (Below w.heap.size w w1) := HB0.out.trans (hb1.mono HB0.out.size)
  obtain ⟨y0, h0⟩ : ∃ y, q % 256 = y := ⟨_, rfl⟩
  obtain ⟨y1, h1⟩ : ∃ y, q / 256 % 256 = y := ⟨_, rfl⟩
  obtain ⟨y2, h2⟩ : ∃ y, q / 65536 % 256 = y := ⟨_, rfl⟩
  obtain ⟨y3, h3⟩ : ∃ y, q / 16777216 % 256 = y := ⟨_, rfl⟩
  have e0 : (q : Int) % 256 = (y0 : Int) := by omega
  have e1 : (q : Int) / 256 % 256 = (y1 : Int) := by omega
  have e2 : (q : Int) / 65536 % 256 = (y2 : Int) := by omega
  have e3 : (q : Int) / 16777216 = (y3 : Int) := by omega
  have hle : M.le4 q = [y0, y1, y2, y3] := by unfold M.le4; rw [h0, h1, h2, h3]
  have hbs := build_four y0 y1 y2 y3
  obtain ⟨g2, cap2, w2, hap, hO2, hg2⟩ := ((ho.lower HB0.out.size).alloc (.cells #[.int .u8 (y0 : Int), .int .u8 (y1 : Int), .int .u8 (y2 : Int), .int .u8 (y3 : Int)] 5)).append (some ⟨w1.heap.size, 0, none⟩) 4 [y0, y1, y2, y3] _
    (row_four w1 _ _ _ _ (by omega) (by omega) (by omega) (by omega)) 22 (by have := hhl.out; simp; omega) (by have := HB1.out.size; simp; omega)
  clear h0 h1 h2 h3
  rw [← hle] at hap hO2
  clear hle
  have HB2 : Hid (Below w.heap.size w w2) := (HB1.out.alloc HB1.out.size _).grown hg2 (by have := HB1.out.size; simp; omega) (by rintro k e; cases e; exact Nat.le_trans HB0.out.size ho.lt.1)
  have hSl : R.length + (M.le4 q).length = S.length := by rw [hse.out, List.length_append]
  rw [← hse.out] at hO2
  rw [hSl] at hap
  have hS256 : ∀ x ∈ S, x < 256 := by
    rw [hse.out]
    intro x hx
    rcases List.mem_append.1 hx with h | h
    · exact hh256.out x h
    · exact M.le4_lt q x h
  have hst := run_str _ cap2 S w2 _ (hO2.row hS256 hO2.lt.2)
  have h4 : (M.le4 q).length = 4 := rfl
  rw [h4] at hap
  have HAP := Lib.hid hap
  clear ho hb1 hr1 hO2 hg2 hSl hS256 hq hap h4
  go_wp2_with (first
    | (at_builtin; refine wpList_append_run rfl _ _ _ _ rfl _ _ rfl rfl HAP.out ?_)
    | (go_at_call 21; refine hsum.mono ?_; rintro e w' ⟨rfl, rfl⟩))
  go_ret
  exact ⟨rfl, HB2.out⟩
end Go.Proofs.YthnffebjjnbakaaDoor
