/-
  WireTurns: the walk of the law.
-/
import Derived.Test.YthnffebjjnbakaaDoorGate
namespace Go.Proofs.YthnffebjjnbakaaDoor
theorem openV_err {l : List Nat} {a m : Int} {e : Nat} (h : M.openV l a m = .error e) : e = 20 ∨ e = 21 := by
  unfold M.openV at h
  split at h
  · unfold M.openR at h
    cases hT : M.takeN (l.drop a.toNat) 1 with
    | none => rw [hT] at h; dsimp only at h; cases h; exact .inl rfl
    | some np =>
      obtain ⟨n, p⟩ := np
      rw [hT] at h
      dsimp only at h
      by_cases h1 : (n : Int) ≤ m ∧ p + n + 4 ≤ (l.drop a.toNat).length
      · rw [if_pos h1] at h
        by_cases h2 : ((l.drop a.toNat).drop (p + n)).take 4 = M.le4 (M.crc ((l.drop a.toNat).take (p + n)))
        · rw [if_pos h2] at h; cases h
        · rw [if_neg h2] at h; cases h; exact .inr rfl
      · rw [if_neg h1] at h; cases h; exact .inl rfl
  · cases h; exact .inl rfl
theorem Row.set {w : World} {B b off : Nat} {l : List Nat} (h : Row w B (some ⟨b, off, none⟩) l) (a c : Nat) (ha : a < l.length) (hc : c < 256) : Row (w.setCell ⟨b, off + a, none⟩ (.int .u8 (c : Int))) B (some ⟨b, off, none⟩) (l.set a c) := by
  refine ⟨?_, fun hn => ?_⟩
  · intro x hx
    rcases List.mem_or_eq_of_mem_set hx with h1 | h1
    · exact h.1 x h1
    · rw [h1]; exact hc
  · obtain ⟨b', off', e, hb, _⟩ := h.2 (by omega)
    injection e with e
    injection e with e1 e2
    subst e1 e2
    refine ⟨b, off, rfl, hb, fun j hj => ?_⟩
    rw [List.length_set] at hj
    by_cases hja : j = a
    · subst hja
      rw [World.cell?_setCell_same _ _ _ (h.cellAt j hj), List.getElem?_set_self hj]; rfl
    · rw [World.cell?_setCell_other _ _ _ _ (by intro e; injection e; omega), h.cellAt j hj, List.getElem?_set_ne (by omega)]
namespace wireTurns
open Go.RowKit

theorem other (k a c : Nat) (b : List Nat) (m : Int) (k' q' : Nat) (b' : List Nat) (hk : k < 256) (hb : ∀ x ∈ b, x < 256) (hl : b.length < 18446744073709551616) (hc : c < 256)
    (ha : a < (M.sealed k b).length) (hne : (M.sealed k b)[a]?.getD 0 ≠ c) (h : M.openV ((M.sealed k b).set a c) 0 m = .ok (k', b', q')) : ¬ (k' = k ∧ b' = b ∧ q' = (M.sealed k b).length) := by
  rintro ⟨rfl, rfl, rfl⟩
  have h256 : ∀ x ∈ (M.sealed k' b').set a c, x < 256 := by
    intro x hx
    rcases List.mem_or_eq_of_mem_set hx with h | h
    · exact M.sealed_lt k' b' hk hb hl x h
    · rw [h]; exact hc
  obtain ⟨-, -, -, -, -, -, -, h8⟩ := open_sealed h256 h
  rw [show (0 : Int).toNat = 0 from rfl, List.drop_zero, Nat.sub_zero, List.take_of_length_le (by simp)] at h8
  have := congrArg (fun l => l[a]?.getD 0) h8
  rw [List.getElem?_set_self ha] at this
  exact hne this.symm

set_option maxRecDepth 100000 in
set_option maxHeartbeats 1600000 in
theorem walk (k : Int) (b : ByteArray) (a c : Int) (w : World) (ht : Tab w) (hk : 0 ≤ k ∧ k ≤ 255) (hbl : b.size ≤ 140737488351232) (ha : -9223372036854775808 ≤ a ∧ a ≤ 9223372036854775807) (hc : 0 ≤ c ∧ c ≤ 255) :
    Calls Tryd.prog 9 #[.int .u8 k, .string b, .int .i64 a, .int .u8 c] w fun e w' => e = .returned (.bool true) ∧ Below w.heap.size w w' := by
  obtain ⟨k, rfl⟩ : ∃ n : Nat, k = n := ⟨k.toNat, by omega⟩
  obtain ⟨c, rfl⟩ : ∃ n : Nat, c = n := ⟨c.toNat, by omega⟩
  have hk256 : k < 256 := by omega
  have hc256 : c < 256 := by omega
  obtain ⟨h, hh⟩ : ∃ h, min b.size 10000 = h := ⟨_, rfl⟩
  have hmin : (if (10000 : Int) < (b.size : Int) then (10000 : Int) else (b.size : Int)) = (h : Int) := by rw [← hh]; split <;> omega
  have hhl : h ≤ b.size := by omega
  obtain ⟨d, hd⟩ : ∃ d, b.extract 0 h = d := ⟨_, rfl⟩
  have hds : d.size ≤ 10000 := by rw [← hd, ByteArray.size_extract]; omega
  have hdl : (byt d).length < 18446744073709551616 := by rw [byt_length]; omega
  have hs1 := fun W (h : Tab W) => seal_any k d W hk256 (by omega) h
  have hoth := other k a.toNat c (byt d)
  have HL256 := Lib.hid (M.sealed_lt k (byt d) hk256 (byt_lt d) hdl)
  have hLl : (M.sealed k (byt d)).length ≤ 10100 := by rw [M.sealed_length, byt_length]; have := M.code_len d.size; omega
  obtain ⟨L, hL⟩ : ∃ L, M.sealed k (byt d) = L := ⟨_, rfl⟩
  rw [hL] at hs1 HL256 hLl hoth
  obtain ⟨Z, hZ⟩ : ∃ Z, strB L = Z := ⟨_, rfl⟩
  rw [hZ] at hs1
  have hZb : byt Z = L := by rw [← hZ]; exact byt_strB L HL256.out
  have hZs : Z.size = L.length := by rw [← byt_length, hZb]
  have HT := Lib.hid ht
  have HS1 := Lib.hid hs1
  have HZB := Lib.hid hZb
  have HZS := Lib.hid hZs
  have HOTH := Lib.hid hoth
  have HDL := Lib.hid hdl
  clear ht hk hc hZ hZb hZs hh hs1 hL hoth hdl
  obtain ⟨N, hN⟩ : ∃ N, Z.size = N := ⟨_, rfl⟩
  have hN2 : N ≤ 10100 := by rw [← hN, HZS.out]; exact hLl
  have HN := Lib.hid hN
  clear hLl
  go_enter Tryd.func9, Tryd.ntmps9
  go_wp2_with fail
  refine (shown_any _ HT.out).mono ?_
  rintro e w1 ⟨rfl, hb1⟩
  have HT1 : Hid (Tab w1) := HT.out.up hb1
  have HB1 := Lib.hid hb1
  clear hb1
  go_wp2_with fail
  refine (HS1.out _ HT1.out).mono ?_
  rintro e w2 ⟨rfl, hb2⟩
  have HT2 : Hid (Tab w2) := HT1.out.up hb2
  have HB2 : Hid (Below w.heap.size w w2) := HB1.out.trans (hb2.mono HB1.out.size)
  clear hb2
  obtain ⟨c3, w3, hcv, hr3, hb3, hf3, hc3⟩ := run_byt Z w2
  have HB3 : Hid (Below w.heap.size w w3) := HB2.out.trans (hb3.mono HB2.out.size)
  have HT3 : Hid (Tab w3) := HT2.out.up hb3
  rw [HZB.out] at hr3
  rw [hN] at hcv hf3 hc3
  have HR3 := Lib.hid hr3
  clear hr3 hb3 hN
  by_cases h0 : a < 0
  · go_wp2
    go_ret
    exact ⟨ret_bool rfl, HB3.out⟩
  · by_cases h1 : (N : Int) ≤ a
    · go_wp2
      go_ret
      exact ⟨ret_bool rfl, HB3.out⟩
    · obtain ⟨a, rfl⟩ : ∃ n : Nat, a = n := ⟨a.toNat, by omega⟩
      clear ha
      rw [Int.toNat_natCast] at HOTH
      have haN : a < N := by omega
      have haL : a < L.length := by rw [← HZS.out, HN.out]; exact haN
      have hca := HR3.out.cellAt a haL
      have hfa := hf3 a haN
      rw [Nat.zero_add] at hca
      obtain ⟨x, hx⟩ : ∃ x, L[a]?.getD 0 = x := ⟨_, rfl⟩
      rw [hx] at hca
      have HX := Lib.hid hx
      have HAL := Lib.hid haL
      clear hx hf3 haL
      by_cases hxc : x = c
      · have hb : ((x : Int) == (c : Int)) = true := by rw [hxc]; simp
        clear hxc
        go_wp2
        go_ret
        exact ⟨ret_bool rfl, HB3.out⟩
      · have hb : ((x : Int) == (c : Int)) = false := by rw [beq_eq_false_iff_ne]; omega
        have hrow := HR3.out.set a c HAL.out hc256
        rw [Nat.zero_add] at hrow
        have HB4 : Hid (Below w.heap.size w (w3.setCell ⟨w2.heap.size, a, none⟩ (.int .u8 (c : Int)))) := HB3.out.setCell (p := ⟨w2.heap.size, a, none⟩) HB2.out.size _
        have HT4 := Lib.hid (HT.out.up HB4.out)
        have hst := run_str _ c3 _ _ _ hrow
        rw [List.length_set, ← HZS.out, HN.out] at hst
        have hTb : byt (strB (L.set a c)) = L.set a c := byt_strB _ hrow.1
        obtain ⟨T, hT⟩ : ∃ T, strB (L.set a c) = T := ⟨_, rfl⟩
        rw [hT] at hst hTb
        have hTs : T.size = N := by rw [← byt_length, hTb, List.length_set, ← HZS.out, HN.out]
        have hop := open_any T 0 (N : Int) _ (by omega) HT4.out (by omega) (by omega) (by omega) (by omega)
        rw [hTb] at hop
        have HXC : Hid (L[a]?.getD 0 ≠ c) := by show _ ≠ _; rw [HX.out]; exact hxc
        clear hT hTb hTs hrow hxc
        cases hO : M.openV (L.set a c) 0 (N : Int) with
        | error e =>
          have he := openV_err hO
          rw [hO] at hop
          simp only [opnR] at hop
          have HOP := Lib.hid hop
          have hne : (((e : Nat) : Int) != 0) = true := by rcases he with rfl | rfl <;> rfl
          clear hO he hop
          go_wp2_with fail
          refine HOP.out.mono ?_
          rintro e w5 ⟨rfl, hb5⟩
          have HB5 : Hid (Below w.heap.size w w5) := HB4.out.trans (hb5.mono HB4.out.size)
          clear hb5
          go_wp2
          go_ret
          exact ⟨ret_bool rfl, HB5.out⟩
        | ok r =>
          obtain ⟨k', b', q'⟩ := r
          have hno := HOTH.out (N : Int) k' q' b' hk256 (byt_lt d) HDL.out hc256 HAL.out HXC.out hO
          rw [hO] at hop
          simp only [opnR] at hop
          have HOP := Lib.hid hop
          clear hop
          by_cases hk' : k' = k
          · have hbk : ((k' : Int) != (k : Int)) = false := by rw [hk']; simp
            by_cases hb' : b' = byt d
            · have hbb : ((strB b').toList == d.toList) = true := by rw [hb', strB_byt]; simp
              have hq' : ((q' : Int) != (N : Int)) = true := by
                rw [bne_iff_ne]
                intro e
                exact hno ⟨hk', hb', by rw [← HZS.out, HN.out]; omega⟩
              clear hno hO hk' hb'
              go_wp2_with fail
              refine HOP.out.mono ?_
              rintro e w5 ⟨rfl, hb5⟩
              have HB5 : Hid (Below w.heap.size w w5) := HB4.out.trans (hb5.mono HB4.out.size)
              clear hb5
              go_wp2
              go_ret
              exact ⟨ret_bool rfl, HB5.out⟩
            · have hbb : ((strB b').toList == d.toList) = false := by
                rw [toList_same, byt_strB b' (by
                  have h256 : ∀ x ∈ L.set a c, x < 256 := by
                    intro x hx
                    rcases List.mem_or_eq_of_mem_set hx with h | h
                    · exact HL256.out x h
                    · rw [h]; exact hc256
                  exact (open_sealed h256 hO).2.2.2.2.1)]
                exact decide_eq_false hb'
              clear hno hO hk' hb'
              go_wp2_with fail
              refine HOP.out.mono ?_
              rintro e w5 ⟨rfl, hb5⟩
              have HB5 : Hid (Below w.heap.size w w5) := HB4.out.trans (hb5.mono HB4.out.size)
              clear hb5
              go_wp2
              go_ret
              exact ⟨ret_bool rfl, HB5.out⟩
          · have hbk : ((k' : Int) != (k : Int)) = true := by rw [bne_iff_ne]; omega
            clear hno hO hk'
            go_wp2_with fail
            refine HOP.out.mono ?_
            rintro e w5 ⟨rfl, hb5⟩
            have HB5 : Hid (Below w.heap.size w w5) := HB4.out.trans (hb5.mono HB4.out.size)
            clear hb5
            go_wp2
            go_ret
            exact ⟨ret_bool rfl, HB5.out⟩
end wireTurns
end Go.Proofs.YthnffebjjnbakaaDoor
