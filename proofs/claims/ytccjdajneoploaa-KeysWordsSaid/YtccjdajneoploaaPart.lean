/-
  The reference's part.
-/
import Derived.Test.YtccjdajneoploaaPut
namespace Go.Proofs.Ytccjdajneoploaa
open Go.RowKit

set_option maxRecDepth 100000 in
set_option maxHeartbeats 1600000 in
theorem part_num (n : Nat) (s : ByteArray) (w : World) :
    Calls Try.prog 23 #[pv ⟨false, n, s⟩] w (Lays (1 :: M.be n 8) w.heap.size w) := by
  unfold pv
  simp only
  obtain ⟨V, hV⟩ : ∃ V : Int, (n : Int) = V := ⟨_, rfl⟩
  have HV := Lib.hid hV
  rw [hV]
  clear hV
  have hB0 : Below w.heap.size w (w.alloc (.cells #[.bool false, .int .u64 V, .string s] 41)) := (Below.refl _ w).alloc (Nat.le_refl _) _
  have c1 : (w.alloc (.cells #[.bool false, .int .u64 V, .string s] 41)).cell? ⟨w.heap.size, 1, none⟩ = some (.int .u64 V) := by simp [go_sem]
  obtain ⟨A1, d1, w1, hap, hg1, hb1⟩ := (Gr.nil (w.alloc (.cells #[.bool false, .int .u64 V, .string s] 41)) (w.heap.size + 1)).one 1 (by decide) 42 (by simp) (by simp)
  simp only [World.size_alloc, List.length_nil, Nat.zero_add] at hap
  have c2 := (hb1.cell (p := ⟨w.heap.size, 1, none⟩) (by simp)).trans c1
  have HAP := Lib.hid hap
  have HG1 := Lib.hid hg1
  have HB1 : Hid (Below w.heap.size w w1) := hB0.trans (hb1.mono (by omega))
  have hsz : w.heap.size + 1 ≤ w1.heap.size := by have := hb1.size; simpa using this
  have HSZ := Lib.hid hsz
  clear hap hg1 hB0 c1 hb1 hsz
  go_enter Try.func23, Try.ntmps23
  go_wp2_with (at_builtin; refine wpList_append_run rfl _ _ _ _ rfl _ _ rfl rfl HAP.out ?_)
  clear HAP
  go_loopg [3, 4] 8 (fun k o i wr => ∃ (j : Nat) (L : List Nat) (B : Option Addr) (d : Nat) (q : Int), j ≤ 8 ∧ k = 8 - j ∧ i = .int .i64 q ∧ Hid (q = 7 - (j : Int)) ∧ o = .slice B L.length d ∧ Hid (L = 1 :: (M.be n 8).take j) ∧ L.length ≤ 100 ∧ Hid (Gr wr (w.heap.size + 1) B d L) ∧ Hid (Below w.heap.size w wr) ∧ wr.cell? ⟨w.heap.size, 1, none⟩ = some (.int .u64 V) ∧ Hid (w.heap.size + 1 ≤ wr.heap.size))
  case atStart => exact ⟨0, [1], A1, d1, 7, by omega, by omega, rfl, by show _ = _; omega, by simp, by show _ = _; simp, by simp, HG1, HB1, c2, HSZ⟩
  case round =>
    obtain ⟨j, L, B, d, q, hj, hgk, rfl, hq, rfl, hL, hLl, hG, hB, hc, hsz⟩ := hrel
    have HGK := Lib.hid hgk; clear hgk
    by_cases hlt : j < 8
    · obtain ⟨s', hs⟩ : ∃ s' : Nat, 7 - j = s' := ⟨_, rfl⟩
      obtain rfl : q = (s' : Int) := by have := hq.out; omega
      have hbt := HV.out ▸ byte_num n s'
      obtain ⟨y, hy⟩ : ∃ y, n / 256 ^ s' % 256 = y := ⟨_, rfl⟩
      have hy256 : y < 256 := by rw [← hy]; exact Nat.mod_lt _ (by decide)
      rw [hy] at hbt
      have HN : Hid (L ++ [y] = 1 :: (M.be n 8).take (j + 1)) := by
        show _ = _
        rw [be_take n j hlt, hL.out, hs, hy]; simp
      obtain ⟨B2, d2, w2, hap2, hg2, hb2⟩ := hG.out.one y hy256 42 (by omega) hsz.out
      have HAP2 := Lib.hid hap2
      have HG2 := Lib.hid hg2
      have hc2 := (hb2.cell (p := ⟨w.heap.size, 1, none⟩) (by simp)).trans hc
      have HB2 : Hid (Below w.heap.size w w2) := hB.out.trans (hb2.mono (by omega))
      have HSZ2 : Hid (w.heap.size + 1 ≤ w2.heap.size) := Nat.le_trans hsz.out hb2.size
      have hs7 : s' ≤ 7 := by omega
      have HS := Lib.hid hs
      clear hap2 hg2 hb2 hy hs
      go_wp2_with (at_builtin; refine wpList_append_run rfl _ _ _ _ rfl _ _ rfl rfl HAP2.out ?_)
      go_roundg (8 - (j + 1))
      case measure => have := HGK.out; omega
      case rel => exact ⟨j + 1, L ++ [y], B2, d2, _, by omega, rfl, rfl, by show _ = _; have := HS.out; omega, by simp, HN, by have := congrArg List.length hL.out; simp [M.be_length] at this ⊢; omega, HG2, HB2, hc2, HSZ2⟩
    · obtain rfl : j = 8 := by omega
      have hq0 : q < 0 := by have := hq.out; omega
      have HN : Hid (L = 1 :: M.be n 8) := by
        show _ = _
        rw [hL.out, List.take_of_length_le (by rw [M.be_length]; omega)]
      go_wp2
      go_ret
      refine ⟨B, d, ?_, ?_, hB.out⟩
      · rw [← HN.out]; rfl
      · rw [← HN.out]; exact hG.out.lower (by omega)

theorem byt_at (s : ByteArray) (j : Nat) (h : j < s.size) : (byt s)[j]? = some (s[j]'h).toNat := by
  unfold byt
  rw [List.getElem?_map, Array.getElem?_toList, Array.getElem?_eq_getElem (show j < s.data.size from h)]
  rfl
theorem byt_next (s : ByteArray) (j : Nat) (h : j < s.size) : (byt s).take (j + 1) = (byt s).take j ++ [(s[j]'h).toNat] := by
  have hl : j < (byt s).length := by rw [byt_length]; exact h
  have := byt_at s j h
  rw [List.getElem?_eq_getElem hl] at this
  injection this with this
  rw [List.take_succ_eq_append_getElem hl, this]

set_option maxRecDepth 100000 in
set_option maxHeartbeats 1600000 in
theorem part_text (n : Nat) (s : ByteArray) (w : World) (hs5 : s.size ≤ 512) :
    Calls Try.prog 23 #[pv ⟨true, n, s⟩] w (Lays (2 :: (M.bod (byt s) ++ [0, 1])) w.heap.size w) := by
  unfold pv
  simp only
  obtain ⟨V, hV⟩ : ∃ V : Int, (n : Int) = V := ⟨_, rfl⟩
  rw [hV]
  clear hV
  have hB0 : Below w.heap.size w (w.alloc (.cells #[.bool true, .int .u64 V, .string s] 41)) := (Below.refl _ w).alloc (Nat.le_refl _) _
  have c1 : (w.alloc (.cells #[.bool true, .int .u64 V, .string s] 41)).cell? ⟨w.heap.size, 2, none⟩ = some (.string s) := by simp [go_sem]
  obtain ⟨A1, d1, w1, hap, hg1, hb1⟩ := (Gr.nil (w.alloc (.cells #[.bool true, .int .u64 V, .string s] 41)) (w.heap.size + 1)).one 2 (by decide) 42 (by simp) (by simp)
  simp only [World.size_alloc, List.length_nil, Nat.zero_add] at hap
  have c2 := (hb1.cell (p := ⟨w.heap.size, 2, none⟩) (by simp)).trans c1
  have HAP := Lib.hid hap
  have HG1 := Lib.hid hg1
  have HB1 : Hid (Below w.heap.size w w1) := hB0.trans (hb1.mono (by omega))
  have hsz : w.heap.size + 1 ≤ w1.heap.size := by have := hb1.size; simpa using this
  have HSZ := Lib.hid hsz
  clear hap hg1 hB0 c1 hb1 hsz
  go_enter Try.func23, Try.ntmps23
  go_wp2_with (at_builtin; refine wpList_append_run rfl _ _ _ _ rfl _ _ rfl rfl HAP.out ?_)
  clear HAP
  go_loopg [3, 5] s.size (fun k o i wr => ∃ (j : Nat) (L : List Nat) (B : Option Addr) (d : Nat), j ≤ s.size ∧ k = s.size - j ∧ i = .int .i64 j ∧ o = .slice B L.length d ∧ Hid (L = 2 :: M.bod ((byt s).take j)) ∧ L.length ≤ 2000 ∧ Hid (Gr wr (w.heap.size + 1) B d L) ∧ Hid (Below w.heap.size w wr) ∧ wr.cell? ⟨w.heap.size, 2, none⟩ = some (.string s) ∧ Hid (w.heap.size + 1 ≤ wr.heap.size))
  case atStart => exact ⟨0, [2], A1, d1, by omega, by omega, rfl, by simp, by show _ = _; simp [M.bod], by simp, HG1, HB1, c2, HSZ⟩
  case round =>
    obtain ⟨j, L, B, d, hj, hgk, rfl, rfl, hL, hLl, hG, hB, hc, hsz⟩ := hrel
    have HGK := Lib.hid hgk; clear hgk
    by_cases hlt : j < s.size
    · obtain ⟨x, hx⟩ : ∃ x, (s[j]'hlt).toNat = x := ⟨_, rfl⟩
      have hx256 : x < 256 := by rw [← hx]; exact (s[j]'hlt).toNat_lt
      have HT : Hid ((byt s).take (j + 1) = (byt s).take j ++ [x]) := by show _ = _; rw [byt_next s j hlt, hx]
      have HLN : Hid (L.length = 1 + (M.bod ((byt s).take j)).length) := by show _ = _; rw [hL.out]; simp; omega
      have hlen : L.length ≤ 1 + 2 * j := by
        have h1 := HLN.out
        have h2 := M.bod_len ((byt s).take j)
        rw [List.length_take] at h2
        omega
      obtain ⟨B2, d2, w2, hap2, hg2, hb2⟩ := hG.out.one x hx256 42 (by omega) hsz.out
      have HAP2 := Lib.hid hap2
      have hc2 := (hb2.cell (p := ⟨w.heap.size, 2, none⟩) (by simp)).trans hc
      have HB2 : Hid (Below w.heap.size w w2) := hB.out.trans (hb2.mono (by omega))
      have HSZ2 : Hid (w.heap.size + 1 ≤ w2.heap.size) := Nat.le_trans hsz.out hb2.size
      by_cases h0 : x = 0
      · subst h0
        obtain ⟨B3, d3, w3, hap3, hg3, hb3⟩ := hg2.one 255 (by decide) 42 (by simp; omega) HSZ2.out
        have e3 : (L ++ [0]).length = L.length + 1 := by simp
        rw [e3] at hap3
        clear e3
        have HAP3 := Lib.hid hap3
        have HG3 := Lib.hid hg3
        have hc3 := (hb3.cell (p := ⟨w.heap.size, 2, none⟩) (by simp)).trans hc2
        have HB3 : Hid (Below w.heap.size w w3) := HB2.out.trans (hb3.mono (by omega))
        have HSZ3 : Hid (w.heap.size + 1 ≤ w3.heap.size) := Nat.le_trans HSZ2.out hb3.size
        have HN : Hid (L ++ [0] ++ [255] = 2 :: M.bod ((byt s).take (j + 1))) := by show _ = _; rw [HT.out, M.bod_snoc, hL.out]; simp
        clear hap2 hap3 hg2 hg3 hb2 hb3
        go_wp2_with (first
          | (at_builtin; refine wpList_append_run rfl _ _ _ _ rfl _ _ rfl rfl HAP2.out ?_; clear HAP2)
          | (at_builtin; refine wpList_append_run rfl _ _ _ _ rfl _ _ rfl rfl HAP3.out ?_))
        go_roundg (s.size - (j + 1))
        case measure => have := HGK.out; omega
        case rel => exact ⟨j + 1, L ++ [0] ++ [255], B3, d3, by omega, rfl, by go_num, by simp, HN, by simp; omega, HG3, HB3, hc3, HSZ3⟩
      · have hz : ((x : Int) == 0) = false := by simp [h0]
        have HN : Hid (L ++ [x] = 2 :: M.bod ((byt s).take (j + 1))) := by show _ = _; rw [HT.out, M.bod_snoc, hL.out]; simp [h0]
        have HG2 := Lib.hid hg2
        clear hap2 hg2 hb2
        go_wp2_with (at_builtin; refine wpList_append_run rfl _ _ _ _ rfl _ _ rfl rfl HAP2.out ?_; clear HAP2)
        go_roundg (s.size - (j + 1))
        case measure => have := HGK.out; omega
        case rel => exact ⟨j + 1, L ++ [x], B2, d2, by omega, rfl, by go_num, by simp, HN, by simp; omega, HG2, HB2, hc2, HSZ2⟩
    · obtain rfl : j = s.size := by omega
      have HN : Hid (L = 2 :: M.bod (byt s)) := by show _ = _; rw [hL.out, List.take_of_length_le (by rw [byt_length]; omega)]
      obtain ⟨B2, d2, w2, hap2, hg2, hb2⟩ := hG.out.two 0 1 (by decide) (by decide) 42 (by omega) hsz.out
      have HAP2 := Lib.hid hap2
      have HB2 : Hid (Below w.heap.size w w2) := hB.out.trans (hb2.mono (by omega))
      have HG2 := Lib.hid hg2
      have HL2 : Hid (L ++ [0, 1] = 2 :: (M.bod (byt s) ++ [0, 1])) := by show _ = _; rw [HN.out, List.cons_append]
      clear hap2 hg2 hb2
      go_wp2_with (at_builtin; refine wpList_append_run rfl _ _ _ _ rfl _ _ rfl rfl HAP2.out ?_; clear HAP2)
      go_ret
      refine ⟨B2, d2, ?_, ?_, HB2.out⟩
      · rw [← HL2.out, List.length_append]; rfl
      · rw [← HL2.out]; exact HG2.out.lower (by omega)

theorem part_any (p : Part) (w : World) (h : M.rightP p = true) : Calls Try.prog 23 #[pv p] w (Lays (M.enc1 p) w.heap.size w) := by
  obtain ⟨t, n, s⟩ := p
  cases t with
  | true =>
    rw [M.enc1_text _ rfl]
    simp [M.rightP] at h
    exact part_text n s w h.2
  | false => rw [M.enc1_num _ rfl]; exact part_num n s w
end Go.Proofs.Ytccjdajneoploaa
