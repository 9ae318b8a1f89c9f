/-
  WireBack: the walk of the law.
-/
import Derived.Test.YthnffebjjnbakaaDoorGate
namespace Go.Proofs.YthnffebjjnbakaaDoor
open Go.RowKit
/-- append(out, s...), s a string that is not empty, up to growslice's own bound. -/
theorem OwnB.strW {w : World} {base g cap : Nat} {l : List Nat} (h : OwnB w base g cap l) (s : ByteArray) (ty : TypeId) (hs : 0 < s.size) (hb : l.length + s.size ≤ 200000000000000) (hbase : base ≤ w.heap.size) :
    ∃ g' cap' w', (Builtin.append_ #[22, 9] ty #[.slice (some ⟨g, 0, none⟩) l.length cap, .string s]).run Tryd.prog w = .ok (.slice (some ⟨g', 0, none⟩) (l ++ byt s).length cap') w' ∧ OwnB w' base g' cap' (l ++ byt s) ∧ Below base w w' := by
  obtain ⟨i0, hi, hz0, hz1, hz2⟩ := info_parts info5
  have hlen : (l ++ byt s).length = l.length + s.size := by rw [List.length_append, byt_length]
  by_cases hroom : l.length + s.size ≤ cap
  · obtain ⟨w', hr, ho, hg⟩ := Lib.run_append_fits_string (P := Tryd.prog) w base 22 9 ty 5 i0 Tryd.underlying22 Tryd.underlying9 hi hz1 (some ⟨g, 0, none⟩) l.length cap (cellsB l) h s (by omega) hroom
    rw [strCells_byt, ← byt_length] at ho
    refine ⟨g, cap, w', ?_, own_app ho, (Below.refl _ w).grown hg hbase (by rintro k e; cases e; exact h.lt.1)⟩
    rw [hr, hlen]
  · have holds : ∀ j u, (cellsB l)[j]? = some u → w.cell? ((⟨g, 0, none⟩ : Addr).add j) = some u := h.cells (g := g) rfl
    have hr := Lib.run_append_grow_string (P := Tryd.prog) w 22 9 ty 5 i0 (.int .u8 0) Tryd.underlying22 Tryd.underlying9 hi hz0 ⟨g, 0, none⟩ l.length cap (cellsB l) (by rw [hz1, cellsB_length, Nat.mul_one]) holds s (by omega) (by omega) (by rw [hz2]; exact growslice_fits_wide (by omega) (by omega))
    refine ⟨_, _, _, by rw [hlen]; exact hr, OwnB.of _ hbase (heap_alloc_new w.drew _) (by rw [hlen]; exact grownCap_ge _ _ _ _) (grownCap_le_maxLen w _ _ _ (by unfold maxLen; omega)) ?_ ?_, ((Below.refl _ w).drew).alloc hbase _⟩
    · have hge := grownCap_ge w (l.length + s.size) cap 5
      have hz1 : (Value.int IntKind.u8 0).cells.size = 1 := rfl
      simp only [Array.size_append, List.size_toArray, size_zeroCells, hz1, cellsB_length, Lib.strCells_length]
      omega
    · simp only [Array.toList_append, List.append_assoc]
      have e : cellsB (l ++ byt s) = cellsB l ++ Lib.strCells s := by rw [strCells_byt]; simp [cellsB]
      rw [e, ← List.append_assoc]
      have e2 : (l ++ byt s).length = (cellsB l ++ Lib.strCells s).length := by rw [← e, cellsB_length]
      rw [e2]
      exact List.take_left
namespace wireBack
open Go.RowKit

set_option maxRecDepth 100000 in
set_option maxHeartbeats 3200000 in
theorem walk (A : Option Addr) (c : Nat) (l : List Nat) (n : Int) (s : ByteArray) (k : Int) (w : World) (ht : Tab w) (hr : Row w w.heap.size A l) (hl : l.length ≤ 140737488351232) (_hcap : l.length ≤ c) (hn : 0 ≤ n ∧ n ≤ 18446744073709551615) (hsl : s.size ≤ 140737488351232) (hk : 0 ≤ k ∧ k ≤ 255) :
    Calls Tryd.prog 7 #[.slice A l.length c, .int .u64 n, .string s, .int .u8 k] w fun e w' => e = .returned (.bool true) ∧ Below w.heap.size w w' := by
  obtain ⟨m, hm⟩ : ∃ m : Nat, (m : Int) = n := ⟨n.toNat, by omega⟩
  obtain ⟨k, rfl⟩ : ∃ n : Nat, k = n := ⟨k.toNat, by omega⟩
  have hk256 : k < 256 := by omega
  have hm64 : m < 18446744073709551616 := by omega
  obtain ⟨h, hh⟩ : ∃ h, min s.size 10000 = h := ⟨_, rfl⟩
  have hmin : (if (10000 : Int) < (s.size : Int) then (10000 : Int) else (s.size : Int)) = (h : Int) := by rw [← hh]; split <;> omega
  have hhl : h ≤ s.size := by omega
  obtain ⟨d, hd⟩ : ∃ d, s.extract 0 h = d := ⟨_, rfl⟩
  have hds : d.size ≤ 10000 := by rw [← hd, ByteArray.size_extract]; omega
  have hdb : (byt d).length = d.size := byt_length d
  -- what is laid, and what is found
  have hcl := M.code_len m
  have hcd := M.code_len d.size
  have hsl2 := M.sealed_length k (byt d)
  rw [hdb] at hsl2
  have hX1 : ∀ x ∈ l ++ M.code m, x < 256 := fun x hx => by
    rcases List.mem_append.1 hx with h | h
    · exact hr.1 x h
    · exact M.code_lt m hm64 x h
  have hX2 : ∀ x ∈ (l ++ M.code m) ++ (M.code d.size ++ byt d), x < 256 := fun x hx => by
    rcases List.mem_append.1 hx with h | h
    · exact hX1 x h
    · rcases List.mem_append.1 h with h | h
      · exact M.code_lt _ (by omega) x h
      · exact byt_lt d x h
  have hZ256 := M.sealed_lt k (byt d) hk256 (byt_lt d) (by omega)
  have hX3 : ∀ x ∈ ((l ++ M.code m) ++ (M.code d.size ++ byt d)) ++ M.sealed k (byt d), x < 256 := fun x hx => by
    rcases List.mem_append.1 hx with h | h
    · exact hX2 x h
    · exact hZ256 x h
  have f1 : M.takeN (((l ++ M.code m) ++ (M.code d.size ++ byt d)) ++ M.sealed k (byt d)) (l.length : Int) = some (m, l.length + (M.code m).length) := by
    unfold M.takeN
    rw [if_pos (by omega), Int.toNat_natCast, List.append_assoc, List.append_assoc, List.append_assoc, List.drop_left, M.parse_code m hm64]
    rfl
  have f2 : M.takeT (((l ++ M.code m) ++ (M.code d.size ++ byt d)) ++ M.sealed k (byt d)) ((l.length + (M.code m).length : Nat) : Int) (d.size : Int) = some (byt d, l.length + (M.code m).length + (M.code d.size).length + d.size) := by
    have e : ((l ++ M.code m) ++ (M.code d.size ++ byt d)) ++ M.sealed k (byt d) = (l ++ M.code m) ++ (M.code d.size ++ (byt d ++ M.sealed k (byt d))) := by simp
    have hT : M.takeN (((l ++ M.code m) ++ (M.code d.size ++ byt d)) ++ M.sealed k (byt d)) ((l.length + (M.code m).length : Nat) : Int) = some (d.size, l.length + (M.code m).length + (M.code d.size).length) := by
      unfold M.takeN
      rw [if_pos (by omega), Int.toNat_natCast, e, ← List.length_append, List.drop_left, M.parse_code _ (by omega)]
      rfl
    unfold M.takeT
    rw [hT]
    dsimp only
    rw [if_pos ⟨by omega, by simp only [List.length_append]; omega⟩]
    congr 2
    have e3 : l.length + (M.code m).length + (M.code d.size).length = ((l ++ M.code m) ++ M.code d.size).length := by simp only [List.length_append]
    have e2 : ((l ++ M.code m) ++ (M.code d.size ++ byt d)) ++ M.sealed k (byt d) = ((l ++ M.code m) ++ M.code d.size) ++ (byt d ++ M.sealed k (byt d)) := by simp
    rw [e3, e2, List.drop_left, ← hdb, List.take_left]
  have f3 : M.openV (((l ++ M.code m) ++ (M.code d.size ++ byt d)) ++ M.sealed k (byt d)) ((l.length + (M.code m).length + (M.code d.size).length + d.size : Nat) : Int) (d.size : Int) = .ok (k, byt d, (((l ++ M.code m) ++ (M.code d.size ++ byt d)) ++ M.sealed k (byt d)).length) := by
    have hlen : ((l ++ M.code m) ++ (M.code d.size ++ byt d)).length = l.length + (M.code m).length + (M.code d.size).length + d.size := by simp only [List.length_append]; omega
    rw [← hlen, openV_in _ _ (by simp only [List.length_append]; omega), List.drop_left]
    have := sealed_open k (byt d) [] (d.size : Int) (by omega) (by omega)
    rw [List.append_nil] at this
    rw [this]
    simp only [List.length_append]
  have hXl : (((l ++ M.code m) ++ (M.code d.size ++ byt d)) ++ M.sealed k (byt d)).length ≤ 140737488400000 := by simp only [List.length_append]; omega
  have hXp : (((l ++ M.code m) ++ (M.code d.size ++ byt d)) ++ M.sealed k (byt d)).take l.length = l := by
    rw [List.append_assoc, List.append_assoc, List.take_left]
  have hn1 := fun W (h : Row W W.heap.size A l) => number_any A c l m W h (by omega) hm64
  rw [hm] at hn1
  have hZs : 0 < (strB (M.sealed k (byt d))).size ∧ (strB (M.sealed k (byt d))).size ≤ 10100 := by rw [strB_size]; omega
  have hZb : byt (strB (M.sealed k (byt d))) = M.sealed k (byt d) := byt_strB _ hZ256
  have hse := fun W (h : Tab W) => seal_any k d W hk256 (by omega) h
  have hX1l : (l ++ M.code m).length ≤ 140737488351300 := by rw [List.length_append]; omega
  have hX2l : ((l ++ M.code m) ++ (M.code d.size ++ byt d)).length ≤ 140737488370000 := by simp only [List.length_append]; omega
  have hXX : ((l ++ M.code m) ++ (M.code d.size ++ byt d)) ++ byt (strB (M.sealed k (byt d))) = ((l ++ M.code m) ++ (M.code d.size ++ byt d)) ++ M.sealed k (byt d) := by rw [hZb]
  obtain ⟨p1, hp1⟩ : ∃ p, l.length + (M.code m).length = p := ⟨_, rfl⟩
  obtain ⟨p2, hp2⟩ : ∃ p, l.length + (M.code m).length + (M.code d.size).length + d.size = p := ⟨_, rfl⟩
  have hp1l : p1 ≤ 140737488400000 := by omega
  have hp2l : p2 ≤ 140737488400000 := by omega
  rw [hp2] at f2 f3
  rw [hp1] at f1 f2
  generalize hX1e : l ++ M.code m = X1 at *
  have htx := fun W g cap (h : Row W W.heap.size (some ⟨g, 0, none⟩) X1) => text_any (some ⟨g, 0, none⟩) cap X1 d W h (by omega)
  generalize hX2e : X1 ++ (M.code d.size ++ byt d) = X2 at *
  generalize hZe : strB (M.sealed k (byt d)) = Z at *
  generalize hXe : X2 ++ M.sealed k (byt d) = X at *
  have htn := fun W g cap (h : Row W W.heap.size (some ⟨g, 0, none⟩) X) => takeNumber_any (some ⟨g, 0, none⟩) cap X (l.length : Int) W h (by omega) (by omega) (by omega)
  rw [f1] at htn
  have htt := fun W g cap (h : Row W W.heap.size (some ⟨g, 0, none⟩) X) (hc : X.length ≤ cap) => takeText_any (some ⟨g, 0, none⟩) cap X (p1 : Int) (d.size : Int) W h hc (by omega) (by omega) (by omega) (by omega) (by omega)
  rw [f2] at htt
  have hop := fun W (h : Tab W) => open_any (strB X) (p2 : Int) (d.size : Int) W (by rw [strB_size]; omega) h (by omega) (by omega) (by omega) (by omega)
  rw [byt_strB X hX3, f3] at hop
  simp only [numR] at htn
  simp only [txtR, strB_byt] at htt
  simp only [opnR, strB_byt] at hop
  rw [hm] at htn
  obtain ⟨SX, hSX⟩ : ∃ SX, strB X = SX := ⟨_, rfl⟩
  rw [hSX] at hop
  obtain ⟨SL, hSL⟩ : ∃ SL, strB l = SL := ⟨_, rfl⟩
  have HR := Lib.hid hr
  have HT := Lib.hid ht
  have H1 := Lib.hid hX1
  have H2 := Lib.hid hX2
  have H3 := Lib.hid hX3
  have HN1 := Lib.hid hn1
  have HTX := Lib.hid htx
  have HSE := Lib.hid hse
  have HTN := Lib.hid htn
  have HTT := Lib.hid htt
  have HOP := Lib.hid hop
  have HXX := Lib.hid hXX
  have HXP := Lib.hid hXp
  have HSX := Lib.hid hSX
  have HSL := Lib.hid hSL
  have HZS := Lib.hid hZs
  have HLX : Hid (l.length ≤ X.length) := by show _ ≤ _; rw [← hXe, ← hX2e, ← hX1e]; simp only [List.length_append]; omega
  have hself : ∀ s : ByteArray, (s.toList == s.toList) = true := fun s => by simp
  clear hr ht hX1 hX2 hX3 hn1 htx hse htn htt hop hXX hXp hSX hSL hZs hZb hZ256 hX1e hX2e hXe hZe f1 f2 f3 hn hm hk hm64 hcl hcd hsl2 hdb hh hp1 hp2
  go_enter Tryd.func7, Tryd.ntmps7
  go_wp2_with fail
  refine (shown_any _ HT.out).mono ?_
  rintro e w1 ⟨rfl, hb1⟩
  have HT1 : Hid (Tab w1) := HT.out.up hb1
  have HR1 : Hid (Row w1 w1.heap.size A l) := HR.out.up hb1
  have HB1 := Lib.hid hb1
  clear hb1
  go_wp2_with fail
  refine (HN1.out _ HR1.out).mono ?_
  rintro e w2 ⟨g2, c2, rfl, ho2, hb2⟩
  have HO2 : Hid (Row w2 w2.heap.size (some ⟨g2, 0, none⟩) X1) := ho2.row H1.out ho2.lt.2
  have HT2 : Hid (Tab w2) := HT1.out.up hb2
  have HR2 : Hid (Row w2 w2.heap.size A l) := HR1.out.up hb2
  have HB2 : Hid (Below w.heap.size w w2) := HB1.out.trans (hb2.mono HB1.out.size)
  clear hb2 ho2
  go_wp2_with fail
  refine (HTX.out _ _ _ HO2.out).mono ?_
  rintro e w3 ⟨g3, c3, rfl, ho3, hb3⟩
  have HO3 : Hid (OwnB w3 w.heap.size g3 c3 X2) := ho3.lower HB2.out.size
  have HT3 : Hid (Tab w3) := HT2.out.up hb3
  have HR3 : Hid (Row w3 w3.heap.size A l) := HR2.out.up hb3
  have HB3 : Hid (Below w.heap.size w w3) := HB2.out.trans (hb3.mono HB2.out.size)
  clear hb3 ho3
  go_wp2_with fail
  refine (HSE.out _ HT3.out).mono ?_
  rintro e w4 ⟨rfl, hb4⟩
  have ho4 := HO3.out.below hb4 HO3.out.lt.2
  have HT4 : Hid (Tab w4) := HT3.out.up hb4
  have HB4 : Hid (Below w.heap.size w w4) := HB3.out.trans (hb4.mono HB3.out.size)
  obtain ⟨g5, c5, w5, hap, hO5, hB5⟩ := ho4.strW Z 22 HZS.out.1 (by have := HZS.out.2; omega) HB4.out.size
  rw [HXX.out] at hap hO5
  have HAP := Lib.hid hap
  have HR4 : Hid (Row w4 w4.heap.size A l) := HR3.out.up hb4
  have HB5 : Hid (Below w.heap.size w w5) := HB4.out.trans hB5
  have HO5 : Hid (Row w5 w5.heap.size (some ⟨g5, 0, none⟩) X) := hO5.row H3.out hO5.lt.2
  have HC5 : Hid (X.length ≤ c5) := by obtain ⟨_, _, _, h, _⟩ := hO5.parts; exact h
  have hc5 : (X.length : Int) ≤ (c5 : Int) := by have := HC5.out; omega
  have hlc5 : (l.length : Int) ≤ (c5 : Int) := by have := HC5.out; have := HLX.out; omega
  have HR5 : Hid (Row w5 w5.heap.size A l) := HR.out.up HB5.out
  have HT5 : Hid (Tab w5) := HT.out.up HB5.out
  clear hb4 ho4 hap hO5 hB5
  go_wp2_with (at_builtin; refine wpList_append_run rfl _ _ _ _ rfl _ _ rfl rfl HAP.out ?_)
  refine (HTN.out _ _ _ HO5.out).mono ?_
  rintro e w6 ⟨rfl, hb6⟩
  have HO6 : Hid (Row w6 w6.heap.size (some ⟨g5, 0, none⟩) X) := HO5.out.up hb6
  have HR6 : Hid (Row w6 w6.heap.size A l) := HR5.out.up hb6
  have HT6 : Hid (Tab w6) := HT5.out.up hb6
  have HB6 : Hid (Below w.heap.size w w6) := HB5.out.trans (hb6.mono HB5.out.size)
  clear hb6
  go_wp2_with fail
  refine (HTT.out _ _ _ HO6.out HC5.out).mono ?_
  rintro e w7 ⟨rfl, hb7⟩
  have HO7 : Hid (Row w7 w7.heap.size (some ⟨g5, 0, none⟩) X) := HO6.out.up hb7
  have HR7 : Hid (Row w7 w7.heap.size A l) := HR6.out.up hb7
  have HT7 : Hid (Tab w7) := HT6.out.up hb7
  have HB7 : Hid (Below w.heap.size w w7) := HB6.out.trans (hb7.mono HB6.out.size)
  clear hb7
  have hst7 := run_str _ c5 X w7 _ HO7.out
  rw [HSX.out] at hst7
  go_wp2_with fail
  refine (HOP.out _ HT7.out).mono ?_
  rintro e w8 ⟨rfl, hb8⟩
  have HO8 : Hid (Row w8 w8.heap.size (some ⟨g5, 0, none⟩) X) := HO7.out.up hb8
  have HR8 : Hid (Row w8 w8.heap.size A l) := HR7.out.up hb8
  have HB8 : Hid (Below w.heap.size w w8) := HB7.out.trans (hb8.mono HB7.out.size)
  clear hb8 hst7
  have hs1 : ∀ j, (convert 22 9 (.slice A l.length c)).run Tryd.prog (w8.drewN j) = .ok (.string SL) (w8.drewN j) := fun j => by
    have := run_str A c l (w8.drewN j) _ (HR8.out.up (below_drewN (Below.refl _ w8) j))
    rwa [HSL.out] at this
  have hs2 : ∀ j, (convert 22 9 (.slice (some ⟨g5, 0, none⟩) l.length c5)).run Tryd.prog (w8.drewN j) = .ok (.string SL) (w8.drewN j) := fun j => by
    have h := (HO8.out.up (below_drewN (Below.refl _ w8) j)).sub 0 l.length
    rw [List.drop_zero, HXP.out] at h
    have := run_str _ c5 l (w8.drewN j) _ h
    rwa [HSL.out] at this
  go_wp2
  go_quiet (fail)
  go_wp2
  go_ret
  exact ⟨ret_bool (by simp), below_drewN HB8.out _⟩
end wireBack
end Go.Proofs.YthnffebjjnbakaaDoor
