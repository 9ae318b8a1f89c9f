/-
  slices.Concat at slices of bytes, of parts that are not all empty.
-/
import Derived.Test.YtadcmljcbmfcaaaWPut
import Derived.Lib.AppendZeros
namespace Go.Proofs.Ytadcmljcbmfcaaa.Wi
open Go.RowKit
set_option linter.unusedVariables false
set_option linter.unusedSimpArgs false

set_option maxRecDepth 100000 in
set_option maxHeartbeats 1600000 in
theorem grow_nil (n : Nat) (w : World) (h0 : 0 < n) (hn : n ≤ 140737488355328) : Calls Try.prog 58 #[.slice none 0 0, .int .i64 (n : Int)] w fun e w' => ∃ c, n ≤ c ∧ e = .returned (.slice (some ⟨w.heap.size, 0, none⟩) 0 c) ∧ OwnB w' w.heap.size w.heap.size c [] ∧ Below w.heap.size w w' := by
  obtain ⟨i0, hi, hz0, hz1, hz2⟩ := info_parts info5
  have hrun := Go.Lib.run_append_nil_zeros (P := Try.prog) w 43 3 43 5 i0 (.int .u8 0) .i64 .i64 Try.underlying43 Try.underlying3 hi hz0 n h0 (by rw [hz1]; decide) (by omega) (by rw [hz2]; omega)
  obtain ⟨c, hc⟩ : ∃ c, grownCap w n 0 5 = c := ⟨_, rfl⟩
  have hge : n ≤ c := by rw [← hc]; exact grownCap_ge w n 0 5
  have hle : c ≤ maxLen := by rw [← hc]; exact grownCap_le_maxLen w n 0 5 (by unfold maxLen; omega)
  rw [hc] at hrun
  obtain ⟨X, hX⟩ : ∃ X, Builtin.zeroCells (Value.int IntKind.u8 0).cells n ++ Builtin.zeroCells (Value.int IntKind.u8 0).cells (c - n) = X := ⟨_, rfl⟩
  have hXs : X.size = c := by rw [← hX]; simp [Builtin.zeroCells, Value.cells]; omega
  rw [hX] at hrun
  have hO : OwnB (w.drew.alloc (.cells X 5)) w.heap.size w.heap.size c [] := OwnB.of X (Nat.le_refl _) (heap_alloc_new w.drew _) (by simp) hle hXs (by simp [cellsB])
  have hB : Below w.heap.size w (w.drew.alloc (.cells X 5)) := ((Below.refl _ w).drew).alloc (Nat.le_refl _) _
  obtain ⟨W, hW⟩ : ∃ W, w.drew.alloc (.cells X 5) = W := ⟨_, rfl⟩
  rw [hW] at hrun hO hB
  have hw1 : wrap64 (n : Int) = (n : Int) := by unfold wrap64; omega
  rw [← hw1] at hrun
  have HRUN := Lib.hid hrun
  have HO := Lib.hid hO
  have HB := Lib.hid hB
  have HG := Lib.hid hge
  have hn0 : ¬ ((n : Int) < 0) := by omega
  have hn1 : (n : Int) > 0 := by omega
  clear hrun hO hB hW hXs hX hle hc hi hz0 hz1 hz2 hge hn h0
  go_enter Try.func58, Try.ntmps58
  go_wp2_with (at_builtin; refine wpList_append_run rfl _ _ _ _ rfl _ _ rfl rfl HRUN.out ?_)
  go_ret
  exact ⟨c, HG.out, rfl, HO.out, HB.out⟩

set_option maxRecDepth 100000 in
set_option maxHeartbeats 1600000 in
theorem concat_any (b off c : Nat) (ps : List Part) (w : World) (hp : Parts w w.heap.size b off ps) (hlen : ps.length ≤ 1000) (h0 : 0 < (cat ps).length) (ht : (cat ps).length ≤ 140737488355328) :
    Calls Try.prog 46 #[.slice (some ⟨b, off, none⟩) ps.length c] w (Owned (cat ps) w) := by
  obtain ⟨T, hT⟩ : ∃ T, (cat ps).length = T := ⟨_, rfl⟩
  rw [hT] at ht h0
  have HP := Lib.hid hp
  have HT := Lib.hid hT
  obtain ⟨N, hN⟩ : ∃ N, ps.length = N := ⟨_, rfl⟩
  have HN := Lib.hid hN
  rw [hN] at hlen ⊢
  have HT0 := Lib.hid (And.intro h0 ht)
  clear hp hT hN
  go_enter Try.func46, Try.ntmps46
  go_wp2
  go_loop [3, 5, 11] (fun s _ k => ∃ (j t : Nat), j ≤ N ∧ t ≤ T ∧ s = .int .i64 t ∧ k = .int .i64 j ∧ Hid ((cat (ps.take j)).length = t)) (fun _ _ k => N - (intOf k).toNat)
  case atStart => exact ⟨0, 0, by omega, by omega, rfl, rfl, by simp [cat, Hid]⟩
  case round =>
    obtain ⟨j, t, hj, htT, rfl, rfl, hs⟩ := hrel
    by_cases hlt : j < N
    · obtain ⟨p, hpj⟩ : ∃ p, ps[j]? = some p := ⟨_, List.getElem?_eq_getElem (by rw [HN.out]; exact hlt)⟩
      obtain ⟨hc, -⟩ := HP.out.2 j p hpj
      obtain ⟨A1, c1, l1⟩ := p
      have HC : Hid ((cat (ps.take (j + 1))).length = t + l1.length) := by show _ = _; rw [cat_take ps j _ hpj, List.length_append, hs.out]
      have hle : t + l1.length ≤ T := by rw [← HC.out, ← HT.out]; exact cat_take_le ps _
      have HPJ := Lib.hid hpj
      clear hpj
      simp only [Part.val] at hc
      have hw1 : wrap64 ((t : Int) + (l1.length : Int)) = (t : Int) + (l1.length : Int) := by unfold wrap64; omega
      have hnn : ¬ ((t : Int) + (l1.length : Int) < 0) := by omega
      go_wp2
      go_round
      case rel => exact ⟨j + 1, t + l1.length, by omega, hle, by go_num, by go_num, HC⟩
      case measure => simp [intOf]; omega
    · obtain rfl : j = N := by omega
      have HC : Hid (t = T) := by show _ = _; rw [← hs.out, ← HT.out, ← HN.out, List.take_length]
      have htt := HC.out
      subst htt
      have HGrow := Lib.hid (grow_nil t w HT0.out.1 HT0.out.2)
      have htn : ¬ ((t : Int) < 0) := by omega
      go_wp2_with fail
      refine HGrow.out.mono ?_
      rintro e w9 ⟨cp, hcp, rfl, hO0, hB0⟩
      have HO0 := Lib.hid hO0
      clear hO0 HGrow
      go_wp2
      go_loopw [6, 8, 27] (fun o _ x wr => ∃ (i : Nat) (L : List Nat), i ≤ j ∧ L.length ≤ t ∧ o = .slice (some ⟨w.heap.size, 0, none⟩) L.length cp ∧ x = .int .i64 i ∧ Hid (L = cat (ps.take i)) ∧ Hid (OwnB wr w.heap.size w.heap.size cp L) ∧ Below w.heap.size w wr) (fun _ _ x _ => j - (intOf x).toNat)
      case atStart => exact ⟨0, [], by omega, by simp, rfl, rfl, by simp [cat, Hid], HO0, hB0⟩
      case round =>
        obtain ⟨i, L, hi, hLt, rfl, rfl, hL, hO, hB⟩ := hrel
        by_cases hlt : i < j
        · obtain ⟨p, hpj⟩ : ∃ p, ps[i]? = some p := ⟨_, List.getElem?_eq_getElem (by rw [HN.out]; exact hlt)⟩
          obtain ⟨hc, hrow⟩ := (HP.out.below hB).2 i p hpj
          obtain ⟨A1, c1, l1⟩ := p
          have HC : Hid (cat (ps.take (i + 1)) = L ++ l1) := by show _ = _; rw [cat_take ps i _ hpj, hL.out]
          have hle : L.length + l1.length ≤ t := by
            have := cat_take_le ps (i + 1)
            rw [HC.out, HT.out, List.length_append] at this
            exact this
          have HPJ := Lib.hid hpj
          clear hpj
          simp only [Part.val] at hc
          obtain ⟨w2, hap, hO2, hg2⟩ := hO.out.fits A1 c1 l1 _ hrow 43 (Nat.le_trans hle hcp)
          have hB2 : Below w.heap.size w w2 := hB.grown hg2 hB.size (by rintro k e; cases e; exact Nat.le_refl _)
          have HAP := Lib.hid hap
          have HO2 := Lib.hid hO2
          clear hap hO2 hg2 hrow
          go_wp2_with (at_builtin; refine wpList_append_run rfl _ _ _ _ rfl _ _ rfl rfl HAP.out ?_)
          go_round
          case rel => exact ⟨i + 1, L ++ l1, by omega, by rw [List.length_append]; exact hle, by rw [List.length_append], by go_num, HC.out.symm, HO2, hB2⟩
          case measure => simp [intOf]; omega
        · obtain rfl : i = j := by omega
          have HC : Hid (L = cat ps) := by show _ = _; rw [hL.out, ← HN.out, List.take_length]
          go_wp2
          go_ret
          rw [← HC.out]
          exact ⟨_, cp, rfl, hO.out, hB⟩

/-- Concat of parts that have just been laid. -/
theorem concat_new (w : World) (ps : List Part) (n : Nat) (cs : Array Value) (hn : ps.length = n) (hcs : cs = (ps.map Part.val).toArray) (h : ∀ p ∈ ps, Row w w.heap.size p.1 p.2.2) (hlen : n ≤ 1000) (h0 : 0 < (cat ps).length) (ht : (cat ps).length ≤ 140737488355328) :
    Calls Try.prog 46 #[.slice (some ⟨w.heap.size, 0, none⟩) n n] (w.alloc (.cells cs 43)) (Owned (cat ps) w) := by
  subst hn
  refine (concat_any w.heap.size 0 ps.length ps _ (parts_new w ps h cs hcs) hlen h0 ht).mono fun e w' ho => ?_
  exact ho.lift ((Below.refl _ w).alloc (Nat.le_refl _) _)
end Go.Proofs.Ytadcmljcbmfcaaa.Wi
