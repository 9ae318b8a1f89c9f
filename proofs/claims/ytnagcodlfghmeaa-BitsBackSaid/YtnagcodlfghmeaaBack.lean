/-
  BitsBack: the walk of the law.
-/
import Derived.Test.YtnagcodlfghmeaaBackParts
namespace Go.Proofs.Ytnagcodlfghmeaa.bitsBack
open Go.RowKit

set_option maxRecDepth 100000 in
set_option maxHeartbeats 4000000 in
theorem walk (A : Option Addr) (c : Nat) (l : List Nat) (w : World) (hr : RowU w w.heap.size A l) (hl : l.length * 8 ≤ 140737488351232) :
    Calls Try.prog 7 #[.slice A l.length c] w fun e w' => e = .returned (.bool true) ∧ Below w.heap.size w w' := by
  have HR := Lib.hid hr; clear hr
  have hl2 : l.length ≤ 17592186043904 := by omega
  clear hl
  obtain ⟨i0, hi0, hz0, hz1, hz2⟩ := info_parts info23
  have HI0 := Lib.hid hi0
  have HZ0 := Lib.hid hz0
  have HZ1 := Lib.hid hz1
  have HZ2 := Lib.hid hz2
  clear hi0 hz0 hz1 hz2
  go_enter Try.func7, Try.ntmps7
  go_wp2_with fail
  refine (shown_any _).mono ?_
  rintro e w1 ⟨rfl, hb1⟩
  have HB1 := Lib.hid hb1; clear hb1
  go_wp2
  go_loopw [4, 5, 6, 7] (fun b n k i wr => ∃ (j N : Nat) (Ab kA : Option Addr) (cb kc : Nat) (L : List Nat), j ≤ 200 ∧ j ≤ l.length ∧ i = .int .i64 j ∧ b = .slice Ab L.length cb ∧ n = .int .i64 N ∧ k = .slice kA (keep l j).length kc ∧
      Hid (L = BL (keep l j) ∧ N = (gl (keep l j)).length) ∧ Hid (Row wr wr.heap.size Ab L) ∧ Hid (wr.ownsRow w.heap.size 23 1 (.slice kA (keep l j).length kc) (keep l j).length ((keep l j).map fun x : Nat => Value.int .u64 (x : Int))) ∧ Hid (Below w.heap.size w wr))
    (fun _ _ _ i _ => 200 - (intOf i).toNat)
  case atStart => exact ⟨0, 0, none, none, 0, 0, [], by omega, by omega, rfl, rfl, rfl, rfl, ⟨rfl, rfl⟩, Row.none_ _ _ _, World.ownsRow_nil _ _ _ _, HB1⟩
  case round =>
    obtain ⟨j, N, Ab, kA, cb, kc, L, hj2, hjl, rfl, rfl, rfl, rfl, hL, hRow, hOwn, hB⟩ := hrel
    have hKl := keep_le l j
    have hgl := gl_le (keep l j) (keep_lt l j)
    have hN2 : N ≤ 26000 := by have := hL.out.2; omega
    have hLl : L.length ≤ 4000 := by have := hL.out; rw [this.1, (BL_inv (keep l j)).len]; omega
    by_cases hgo : j < l.length ∧ j < 200
    · obtain ⟨hjlt, hj200⟩ := hgo
      obtain ⟨b0, off, rfl, hb0, hc⟩ := (HR.out.below hB.out).2 (by omega)
      have hcj := hc j hjlt
      have hVal : Hid (M.Valid L N) := by have := hL.out; show M.Valid L N; rw [this.1, this.2]; exact M.valid_of_inv (BL_inv (keep l j))
      clear hc hgl
      by_cases hv : l[j]?.getD 0 < 4611686018427387904
      · have hkeep := keep_yes l j hjlt hv
        have hput := fun (w : World) (hr : Row w w.heap.size Ab L) => putOwn_new Ab cb L N (l[j]?.getD 0) w hr (by omega) hVal.out hv
        obtain ⟨V, hV⟩ : ∃ V : Int, ((l[j]?.getD 0 : Nat) : Int) = V := ⟨_, rfl⟩
        simp only [hV] at hput
        rw [hV] at hcj
        have hV0 : 0 ≤ V := by omega
        have hV1 : V < 4611686018427387904 := by omega
        have HPUT := Lib.hid hput
        have HKEEP := Lib.hid hkeep
        have HVV := Lib.hid hV
        clear hput hkeep hV hv
        go_wp2_with fail
        refine (HPUT.out _ hRow.out).mono ?_
        rintro e w2 ⟨c2, rfl, hblk, hlt256, hb2⟩
        have hbw : b0 < wr.heap.size := Nat.lt_of_lt_of_le hb0 hB.out.size
        have hcj2 : w2.cell? ⟨b0, off + j, none⟩ = some (.int .u64 V) := (hb2.cell (p := ⟨b0, off + j, none⟩) hbw).trans hcj
        have hown2 := own_below hOwn.out hb2
        have hg0 := fun k (e : (Value.slice kA (keep l j).length kc).ownBlock = some k) => (hOwn.out.lt k e).2
        have hs2 := hb2.size
        have hBs := hB.out.size
        obtain ⟨v', w3, hrun, hown3, hg3, _⟩ := run_append_own (P := Try.prog) (w2.alloc (.cells #[.int .u64 V] 23)) w.heap.size 38 38 23 i0 (.int .u64 0) 1 8 Try.underlying38 HI0.out HZ0.out HZ1.out HZ2.out rfl (by decide) _ _ _ (hown2.alloc _) ⟨w2.heap.size, 0, none⟩ 1 1 [.int .u64 V] rfl
          (fun k u hk => by
            match k, hk with
            | 0, hk => simp at hk; subst hk; simp [Addr.add])
          (fun u hu => by simp at hu; subst hu; rfl) (by unfold maxLen; omega) (by omega) (by simp; omega)
        obtain ⟨kA3, kc3, rfl⟩ := own_shape hown3
        have hblk3 : Blok w3 wr.heap.size 5 (cellsB (M.putL L N (M.gamma (l[j]?.getD 0)))) := (hblk.alloc _).kept hg3 (fun e => by have := hg0 _ e.symm; omega)
        have HB3 : Hid (Below w.heap.size w w3) := ((hB.out.trans (hb2.mono hBs)).alloc (by omega) _).grown hg3 (by simp; omega) (fun k e => (hOwn.out.lt k e).1)
        have HRow3 : Hid (Row w3 w3.heap.size (some ⟨wr.heap.size, 0, none⟩) (M.putL L N (M.gamma (l[j]?.getD 0)))) := hblk3.row hlt256 (by have := hg3.size; simp at this; omega)
        have HAP := Lib.hid hrun
        have HOWN3 : Hid (w3.ownsRow w.heap.size 23 1 (.slice kA3 ((keep l j).length + 1) kc3) ((keep l j).length + 1) ((keep l j).map (fun x : Nat => Value.int .u64 (x : Int)) ++ [Value.int .u64 V])) := hown3
        have hLN : Hid (M.putL L N (M.gamma (l[j]?.getD 0)) = BL (keep l (j + 1)) ∧ N + (M.gamma (l[j]?.getD 0)).length = (gl (keep l (j + 1))).length) := by
          have h := hL.out
          refine ⟨?_, ?_⟩
          · rw [HKEEP.out, h.1, h.2]; exact BL_snoc _ _
          · rw [HKEEP.out, gl_snoc, List.length_append, ← h.2]
        clear hcj hown2 hg0 hrun hown3 hg3 hblk hblk3 hlt256 hb2
        generalize M.putL L N (M.gamma (l[j]?.getD 0)) = X at *
        generalize hG : (M.gamma (l[j]?.getD 0)).length = G at *
        have HG := Lib.hid hG; clear hG
        go_wp2_with (at_builtin; refine wpList_append_run rfl _ _ _ _ rfl _ _ rfl rfl HAP.out ?_)
        go_roundw
        case rel =>
          exact ⟨j + 1, N + G, some ⟨wr.heap.size, 0, none⟩, kA3, c2, kc3, X, by omega, by omega, by go_num, rfl, by go_num, by rw [HKEEP.out]; simp, hLN, HRow3, by
            show World.ownsRow _ _ _ _ _ _ _
            rw [HKEEP.out, List.map_append, List.length_append, List.length_singleton, List.map_singleton, HVV.out]
            exact HOWN3.out, HB3⟩
        case measure => simp [intOf]; omega
      · have hkeep := keep_no l j hjlt hv
        obtain ⟨V, hV⟩ : ∃ V : Int, ((l[j]?.getD 0 : Nat) : Int) = V := ⟨_, rfl⟩
        rw [hV] at hcj
        have hV1 : 4611686018427387904 ≤ V := by omega
        have HKEEP := Lib.hid hkeep
        clear hkeep hV hv
        go_wp2_with fail
        refine (putOwn_no _ _ L _ _ _ hRow.out (by omega) (by omega) (by omega) (fun h => by omega)).mono ?_
        rintro e w2 ⟨rfl, rfl⟩
        go_wp2
        go_roundw
        case rel => exact ⟨j + 1, N, Ab, kA, cb, kc, L, by omega, by omega, by go_num, rfl, rfl, by rw [HKEEP.out], by rw [HKEEP.out]; exact hL, hRow, by rw [HKEEP.out]; exact hOwn, hB⟩
        case measure => simp [intOf]; omega
    · have HKLT := Lib.hid (keep_lt l j)
      have hRt : Hid (M.rightB L N = true) := by
        have h := hL.out
        show M.rightB L N = true
        rw [h.1, h.2]; exact M.rightB_nat (M.valid_of_inv (BL_inv (keep l j)))
      have hread : Hid (∀ k, k < (keep l j).length → M.ownV L N ((gl ((keep l j).take k)).length : Nat) = ((((keep l j)[k]?.getD 0 : Nat) : Int), (((gl ((keep l j).take (k + 1))).length : Nat) : Int), 0)) := fun k hk => by
        have h := hL.out
        have hR := hRt.out
        have hs := congrArg List.length (gl_split (keep l j) k hk)
        simp only [List.length_append] at hs
        rw [h.1, h.2] at hR ⊢
        exact M.ownV_some hR (by omega) (gl_read (keep l j) k hk HKLT.out)
      have hnext : Hid (∀ k, k < (keep l j).length → (gl ((keep l j).take k)).length < (gl ((keep l j).take (k + 1))).length ∧ (gl ((keep l j).take (k + 1))).length ≤ N) := fun k hk => by
        have h := hL.out
        have h1 := gl_take_succ (keep l j) k hk
        have h2 := gamma_pos ((keep l j)[k]?.getD 0)
        have hs := congrArg List.length (gl_split (keep l j) k hk)
        simp only [List.length_append] at hs
        rw [h.2]
        omega
      have hall : Hid ((gl ((keep l j).take (keep l j).length)).length = N) := by
        show _ = _
        rw [List.take_length]; exact hL.out.2.symm
      have hget : Hid (∀ k, k < (keep l j).length → ((keep l j).map fun x : Nat => Value.int .u64 (x : Int))[k]? = some (.int .u64 (((keep l j)[k]?.getD 0 : Nat) : Int))) := fun k hk => by simp [hk]
      clear hgl HKLT
      have hexit : (j < l.length ∧ ¬ j < 200) ∨ ¬ j < l.length := by omega
      clear hgo
      generalize keep l j = K at *
      rcases hexit with ⟨h1, h2⟩ | h1
      all_goals
        go_wp2
        go_loopw [11, 12] (fun t i wr => ∃ (k T : Nat), k ≤ K.length ∧ T ≤ N ∧ i = .int .i64 k ∧ t = .int .i64 T ∧ Hid (T = (gl (K.take k)).length) ∧ Hid (Row wr wr.heap.size Ab L) ∧ Hid (wr.ownsRow w.heap.size 23 1 (.slice kA K.length kc) K.length (K.map fun x : Nat => Value.int .u64 (x : Int))) ∧ Hid (Below w.heap.size w wr))
          (fun _ i _ => K.length - (intOf i).toNat)
        case atStart => exact ⟨0, 0, Nat.zero_le _, Nat.zero_le _, rfl, rfl, rfl, hRow, hOwn, hB⟩
        case round =>
          obtain ⟨k, T, hk, hTN, rfl, rfl, hT, hRow2, hOwn2, hB2⟩ := hrel
          by_cases hlt : k < K.length
          · have hV := hread.out k hlt
            rw [← hT.out] at hV
            have hnx := hnext.out k hlt
            rw [← hT.out] at hnx
            obtain ⟨T2, hT2⟩ : ∃ T2, (gl (K.take (k + 1))).length = T2 := ⟨_, rfl⟩
            rw [hT2] at hV hnx
            have HT2 := Lib.hid hT2
            have HV := Lib.hid hV
            clear hT2 hV
            rcases hOwn2.out.2 with ⟨_, h0⟩ | ⟨g, cap, cur, he, _⟩
            · omega
            · injection he with hkA _ hcap
              subst hkA
              subst hcap
              have hcell := (hOwn2.out.cellAt k (by omega)).trans (hget.out k hlt)
              have hgb := (hOwn2.out.lt g rfl).2
              obtain ⟨x, hx⟩ : ∃ x : Int, ((K[k]?.getD 0 : Nat) : Int) = x := ⟨_, rfl⟩
              rw [hx] at hcell HV
              have HX := Lib.hid hx
              clear hx
              go_wp2_with fail
              refine (takeOwn_any _ _ L _ _ _ hRow2.out (by omega) (by omega) (by omega)).mono ?_
              rintro e w4 ⟨rfl, hb4⟩
              rw [HV.out]
              have hcell4 : w4.cell? ⟨g, k, none⟩ = some (.int .u64 x) := (hb4.cell (p := ⟨g, k, none⟩) hgb).trans hcell
              have HRow4 := Lib.hid ((hRow2.out.below hb4).more hb4.size)
              have HOwn4 := Lib.hid (own_below hOwn2.out hb4)
              have HB4 : Hid (Below w.heap.size w w4) := hB2.out.trans (hb4.mono hB2.out.size)
              clear hb4 hcell
              go_wp2
              go_roundw
              case rel => exact ⟨k + 1, T2, by omega, by omega, by go_num, rfl, HT2.out.symm, HRow4, HOwn4, HB4⟩
              case measure => simp [intOf]; omega
          · obtain rfl : k = K.length := by omega
            have hTe : T = N := by rw [hT.out]; exact hall.out
            have hTb : ((T : Int) == (N : Int)) = true := by simp [hTe]
            clear hTe
            go_wp2_with (go_at_call 13; refine (right_any _ _ L _ _ _ hRow2.out (by omega) (by omega) (by omega)).mono ?_; rintro e w' ⟨rfl, rfl⟩; rw [hRt.out])
            go_ret
            exact ⟨rfl, hB2.out⟩
end Go.Proofs.Ytnagcodlfghmeaa.bitsBack
