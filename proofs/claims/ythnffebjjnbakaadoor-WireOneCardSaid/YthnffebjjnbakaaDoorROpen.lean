/-
  The reference's Open.
-/
import Derived.Test.YthnffebjjnbakaaDoorOpen
namespace Go.Proofs.YthnffebjjnbakaaDoor
open Go.RowKit

theorem byt_at (s : ByteArray) (a : Nat) (h : a < s.size) : (s[a]'h).toNat = (byt s)[a]?.getD 0 := by
  have h2 : a < s.data.size := h
  unfold byt
  rw [List.getElem?_map, List.getElem?_eq_getElem (by simpa using h2)]
  rfl
theorem openV_far (l : List Nat) (a : Int) (m : Int) (h : (l.length : Int) ≤ a) : M.openV l a m = .error 20 := by
  unfold M.openV
  split
  · rename_i h2
    rw [List.drop_of_length_le (by omega)]
    unfold M.openR
    rw [takeN_nil]
  · rfl
theorem openV_cons (l : List Nat) (hl : ∀ x ∈ l, x < 256) (a : Nat) (m : Int) (h : a < l.length) : M.openV l a m = match (M.takeN (l.drop (a + 1)) 0) with
    | none => .error 20
    | some (n, p) => if (n : Int) ≤ m ∧ p + n + 4 ≤ l.length - (a + 1) then
        (if M.sealed (l[a]?.getD 0) (((l.drop (a + 1)).drop p).take n) = (l.drop a).take (p + 1 + n + 4) then .ok (l[a]?.getD 0, ((l.drop (a + 1)).drop p).take n, a + 1 + (p + n) + 4) else .error 21) else .error 20 := by
  have hr : l.drop a = l[a]?.getD 0 :: l.drop (a + 1) := by rw [List.drop_eq_getElem_cons h, List.getElem?_eq_getElem h]; rfl
  have h256 : ∀ x ∈ l.drop a, x < 256 := fun x hx => hl x (List.mem_of_mem_drop hx)
  have hlen : (l.drop a).length = l.length - (a + 1) + 1 := by rw [List.length_drop]; omega
  have hT1 : M.takeN (l.drop a) 1 = (M.takeN (l.drop (a + 1)) 0).map fun q => (q.1, q.2 + 1) := by rw [hr]; exact takeN_tail _ _
  have hr0 : (l.drop a)[0]?.getD 0 = l[a]?.getD 0 := by rw [hr]; rfl
  have hrd : ∀ p, (l.drop a).drop (p + 1) = (l.drop (a + 1)).drop p := fun p => by rw [hr, List.drop_succ_cons]
  rw [openV_in l a (by omega)]
  cases hT : M.takeN (l.drop (a + 1)) 0 with
  | none =>
    rw [hT] at hT1
    unfold M.openR
    rw [hT1]
    rfl
  | some np =>
    obtain ⟨n, p⟩ := np
    rw [hT, Option.map_some] at hT1
    unfold M.openR
    rw [hT1]
    dsimp only
    by_cases h1 : (n : Int) ≤ m ∧ p + n + 4 ≤ l.length - (a + 1)
    · rw [if_pos h1, if_pos ⟨h1.1, by rw [hlen]; omega⟩]
      have hs := seal_iff h256 hT1 (by rw [hlen]; omega)
      rw [hr0, hrd] at hs
      by_cases h2 : M.sealed (l[a]?.getD 0) (((l.drop (a + 1)).drop p).take n) = (l.drop a).take (p + 1 + n + 4)
      · rw [if_pos h2, if_pos (hs.1 h2), hr0, hrd]
        show Except.ok (_, _, _) = Except.ok (_, _, _)
        rw [show a + (p + 1 + n + 4) = a + 1 + (p + n) + 4 by omega]
      · rw [if_neg h2, if_neg (fun e => h2 (hs.2 e))]
    · rw [if_neg h1, if_neg (by rw [hlen]; omega)]

set_option maxRecDepth 100000 in
set_option maxHeartbeats 3200000 in
theorem ropen_any (s : ByteArray) (a m : Int) (w : World) (hl : s.size ≤ 140737488355000) (ha1 : -9223372036854775808 ≤ a) (ha2 : a ≤ 9223372036854775807) (hm1 : -9223372036854775808 ≤ m) (hm2 : m ≤ 9223372036854775807) :
    Calls Tryd.prog 23 #[.string s, .int .i64 a, .int .i64 m] w fun e w' => e = .returned (opnR (M.openV (byt s) a m)) ∧ Below w.heap.size w w' := by
  by_cases h0 : a < 0
  · have HT : Hid (M.openV (byt s) a m = .error 20) := if_neg (by omega)
    go_enter Tryd.func23, Tryd.ntmps23
    go_wp2
    (try simp only [Exit.inBlock, Exit.then]); refine bodyPost_ret (results_tmp4 rfl _ _ _) rfl ?_
    rw [HT.out]
    exact ⟨rfl, Below.refl _ _⟩
  · by_cases h1 : (s.size : Int) ≤ a
    · have HT : Hid (M.openV (byt s) a m = .error 20) := openV_far _ _ _ (by rw [byt_length]; exact h1)
      go_enter Tryd.func23, Tryd.ntmps23
      go_wp2
      (try simp only [Exit.inBlock, Exit.then]); refine bodyPost_ret (results_tmp4 rfl _ _ _) rfl ?_
      rw [HT.out]
      exact ⟨rfl, Below.refl _ _⟩
    · obtain ⟨a, rfl⟩ : ∃ n : Nat, a = n := ⟨a.toNat, by omega⟩
      have hal : a < s.size := by omega
      clear ha1 ha2 h0 h1
      have HV := Lib.hid (openV_cons (byt s) (byt_lt s) a m (by rw [byt_length]; exact hal))
      have HUB := Lib.hid (byt_drop s (a + 1))
      obtain ⟨u, hu⟩ : ∃ u, s.extract (a + 1) s.size = u := ⟨_, rfl⟩
      have hus : u.size = s.size - (a + 1) := by rw [← hu, ByteArray.size_extract]; omega
      have haus : a + 1 + u.size = s.size := by omega
      have HAUS := Lib.hid haus
      have hul : u.size ≤ 140737488355000 := by omega
      rw [hu] at HUB
      obtain ⟨c1, w1, hcv, hr1, hb1, -, hc1⟩ := run_byt u w
      have htx := rtakeText_any _ c1 (byt u) 0 m w1 hr1 (by rw [byt_length]; exact hc1) (by rw [byt_length]; omega) (by omega) (by omega) hm1 hm2
      rw [byt_length] at htx
      have HB1 := Lib.hid hb1
      rw [← HUB.out, byt_length] at HV
      have hul2 : Hid ((byt u).length = u.size) := byt_length u
      have hidx : ∀ W, (Instr.index 9 (.string s) (.int .i64 (a : Int))).run Tryd.prog W = .ok (.int .u8 (((byt s)[a]?.getD 0 : Nat) : Int)) W := by
        intro W
        rw [run_index_string W 9 s .i64 (a : Int) Tryd.underlying9, dif_pos ⟨by omega, by omega⟩]
        simp only [Int.toNat_natCast]
        rw [byt_at s a hal]
      have hx256 : (byt s)[a]?.getD 0 < 256 := by rw [← byt_at s a hal]; exact UInt8.toNat_lt _
      obtain ⟨x, hx⟩ : ∃ x, (byt s)[a]?.getD 0 = x := ⟨_, rfl⟩
      rw [hx] at hidx hx256 HV
      clear hr1 hb1 hus haus hx hc1
      have hw1 : IntKind.i64.wrap ((a : Int) + 1) = (a : Int) + 1 := IntWalk.i64_in _ (by omega)
      cases hT : M.takeN (byt u) 0 with
      | none =>
        have HT : Hid (M.openV (byt s) a m = .error 20) := by show _ = _; rw [HV.out, hT]
        have htt : M.takeT (byt u) 0 m = none := by unfold M.takeT; rw [hT]
        rw [htt] at htx
        simp only [txtR] at htx
        have hne : ((20 : Int) != 0) = true := rfl
        clear hT htt
        go_enter Tryd.func23, Tryd.ntmps23
        go_wp2_with fail
        refine htx.mono ?_
        rintro e w2 ⟨rfl, hb2⟩
        have HB2 : Hid (Below w.heap.size w w2) := HB1.out.trans (hb2.mono HB1.out.size)
        clear hb2 htx hcv hidx
        go_wp2
        (try simp only [Exit.inBlock, Exit.then]); refine bodyPost_ret (results_tmp4 rfl _ _ _) rfl ?_
        rw [HT.out]
        exact ⟨rfl, HB2.out⟩
      | some np =>
        obtain ⟨n, p⟩ := np
        obtain ⟨-, hn64, -, hpl, -⟩ := takeN_some (byt_lt u) hT
        rw [byt_length] at hpl
        rw [hT] at HV
        dsimp only at HV
        by_cases hA : (n : Int) ≤ m ∧ p + n ≤ u.size
        · have htt : M.takeT (byt u) 0 m = some (((byt u).drop p).take n, p + n) := by unfold M.takeT; rw [hT]; dsimp only; rw [if_pos ⟨hA.1, by rw [byt_length]; exact hA.2⟩]
          rw [htt] at htx
          simp only [txtR] at htx
          obtain ⟨q, hq⟩ : ∃ q, p + n = q := ⟨_, rfl⟩
          rw [hq] at htx
          have hqu : q ≤ u.size := by omega
          obtain ⟨S, hS⟩ : ∃ S, strB (((byt u).drop p).take n) = S := ⟨_, rfl⟩
          rw [hS] at htx
          have HS := Lib.hid hS
          have hSb : byt S = ((byt u).drop p).take n := by rw [← hS]; exact byt_strB _ fun x hx => byt_lt u x (List.mem_of_mem_drop (List.mem_of_mem_take hx))
          have hSs : S.size ≤ 140737488355000 := by rw [← byt_length, hSb, List.length_take, List.length_drop, byt_length]; omega
          by_cases hB : q + 4 ≤ u.size
          · have HV2 : Hid (M.openV (byt s) a m = if M.sealed x (byt S) = ((byt s).drop a).take (q + 5) then .ok (x, byt S, a + 1 + q + 4) else .error 21) := by
              show _ = _
              rw [HV.out, if_pos ⟨hA.1, by have := HAUS.out; omega⟩, hSb, hq, show p + 1 + n + 4 = q + 5 by omega]
            obtain ⟨z, hz⟩ : ∃ z, s.extract a (a + 1 + q + 4) = z := ⟨_, rfl⟩
            have HZ : Hid (byt z = ((byt s).drop a).take (q + 5)) := by show _ = _; rw [← hz, byt_extract]; congr 1; omega
            have hsl : ∀ W, (Instr.slice 9 (.string s) (some (.int .i64 (a : Int))) (some (.int .i64 ((a : Int) + 1 + (q : Int) + 4))) none).run Tryd.prog W = .ok (.string z) W := by
              intro W
              have := run_slice_string (P := Tryd.prog) W 9 s .i64 .i64 (a : Int) ((a : Int) + 1 + (q : Int) + 4) Tryd.underlying9 (by omega) (by omega) (by have := HAUS.out; omega)
              rw [this, ← hz]
              rw [show ((a : Int)).toNat = a by omega, show ((a : Int) + 1 + (q : Int) + 4).toNat = a + 1 + q + 4 by omega]
            have hsealB : ∀ y ∈ M.sealed x (byt S), y < 256 := M.sealed_lt x (byt S) hx256 (byt_lt S) (by rw [byt_length]; omega)
            have hseal : ∀ W, Calls Tryd.prog 25 #[.int .u8 (x : Int), .string S] W fun e w' => e = .returned (.string (strB (M.sealed x (byt S)))) ∧ Below W.heap.size W w' := fun W => rseal_any x S W hx256 hSs
            have hcmp : ((strB (M.sealed x (byt S))).toList == z.toList) = decide (M.sealed x (byt S) = ((byt s).drop a).take (q + 5)) := by
              rw [toList_same, byt_strB _ hsealB, HZ.out]
            obtain ⟨Y, hY⟩ : ∃ Y, strB (M.sealed x (byt S)) = Y := ⟨_, rfl⟩
            rw [hY] at hseal hcmp
            have hwe1 : IntKind.i64.wrap ((a : Int) + 1 + (q : Int)) = (a : Int) + 1 + (q : Int) := IntWalk.i64_in _ (by omega)
            have hwe2 : IntKind.i64.wrap ((a : Int) + 1 + (q : Int) + 4) = (a : Int) + 1 + (q : Int) + 4 := IntWalk.i64_in _ (by omega)
            have hg4 : ¬ (s.size : Int) - (a : Int) - 1 - (q : Int) < 4 := by have := HAUS.out; omega
            have HSB : Hid (strB (byt S) = S) := strB_byt S
            clear hA hB hS hSb hq hn64 hpl hT htt hz hsealB hY
            by_cases hX : M.sealed x (byt S) = ((byt s).drop a).take (q + 5)
            · have HO : Hid (M.openV (byt s) a m = .ok (x, byt S, a + 1 + q + 4)) := by show _ = _; rw [HV2.out, if_pos hX]
              rw [decide_eq_true hX] at hcmp
              clear hX
              go_enter Tryd.func23, Tryd.ntmps23
              go_wp2_with fail
              refine htx.mono ?_
              rintro e w2 ⟨rfl, hb2⟩
              have HB2 : Hid (Below w.heap.size w w2) := HB1.out.trans (hb2.mono HB1.out.size)
              clear hb2 htx hcv
              go_wp2
              go_region_with (go_at_call 25; refine (hseal _).mono ?_; rintro e w4 ⟨rfl, hb4⟩)
              all_goals have HB4 : Hid (Below w.heap.size w w4) := HB2.out.trans (((Below.refl w2.heap.size w2).drew.trans hb4).mono HB2.out.size)
              all_goals clear hb4
              all_goals go_wp2
              all_goals ((try simp only [Exit.inBlock, Exit.then]); refine bodyPost_ret (results_tmp4 rfl _ _ _) rfl ?_)
              all_goals rw [HO.out]
              all_goals exact ⟨by simp [opnR, HSB.out], HB4.out⟩
            · have HO : Hid (M.openV (byt s) a m = .error 21) := by show _ = _; rw [HV2.out, if_neg hX]
              rw [decide_eq_false hX] at hcmp
              clear hX
              go_enter Tryd.func23, Tryd.ntmps23
              go_wp2_with fail
              refine htx.mono ?_
              rintro e w2 ⟨rfl, hb2⟩
              have HB2 : Hid (Below w.heap.size w w2) := HB1.out.trans (hb2.mono HB1.out.size)
              clear hb2 htx hcv
              go_wp2
              go_region_with (go_at_call 25; refine (hseal _).mono ?_; rintro e w4 ⟨rfl, hb4⟩)
              all_goals have HB4 : Hid (Below w.heap.size w w4) := HB2.out.trans (((Below.refl w2.heap.size w2).drew.trans hb4).mono HB2.out.size)
              all_goals clear hb4
              all_goals go_wp2
              all_goals ((try simp only [Exit.inBlock, Exit.then]); refine bodyPost_ret (results_tmp4 rfl _ _ _) rfl ?_)
              all_goals rw [HO.out]
              all_goals exact ⟨rfl, HB4.out⟩
          · have HO : Hid (M.openV (byt s) a m = .error 20) := by show _ = _; rw [HV.out, if_neg (by have := HAUS.out; omega)]
            have hg4 : (s.size : Int) - (a : Int) - 1 - (q : Int) < 4 := by have := HAUS.out; omega
            clear hA hB hS hSb hq hn64 hpl hT htt hidx
            go_enter Tryd.func23, Tryd.ntmps23
            go_wp2_with fail
            refine htx.mono ?_
            rintro e w2 ⟨rfl, hb2⟩
            have HB2 : Hid (Below w.heap.size w w2) := HB1.out.trans (hb2.mono HB1.out.size)
            clear hb2 htx hcv
            go_wp2
            (try simp only [Exit.inBlock, Exit.then]); refine bodyPost_ret (results_tmp4 rfl _ _ _) rfl ?_
            rw [HO.out]
            exact ⟨rfl, HB2.out⟩
        · have HT : Hid (M.openV (byt s) a m = .error 20) := by show _ = _; rw [HV.out, if_neg (by have := HAUS.out; omega)]
          have htt : M.takeT (byt u) 0 m = none := by unfold M.takeT; rw [hT]; dsimp only; rw [if_neg (by rw [byt_length]; exact hA)]
          rw [htt] at htx
          simp only [txtR] at htx
          have hne : ((20 : Int) != 0) = true := rfl
          clear hT htt hA hn64
          go_enter Tryd.func23, Tryd.ntmps23
          go_wp2_with fail
          refine htx.mono ?_
          rintro e w2 ⟨rfl, hb2⟩
          have HB2 : Hid (Below w.heap.size w w2) := HB1.out.trans (hb2.mono HB1.out.size)
          clear hb2 htx hcv hidx
          go_wp2
          (try simp only [Exit.inBlock, Exit.then]); refine bodyPost_ret (results_tmp4 rfl _ _ _) rfl ?_
          rw [HT.out]
          exact ⟨rfl, HB2.out⟩
end Go.Proofs.YthnffebjjnbakaaDoor
