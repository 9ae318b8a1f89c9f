/-
  The program's takeNumber, and the three calls of Parse.
-/
import Derived.Test.YtflghlmikpfnpaaDoorERead2
import Derived.Test.YtflghlmikpfnpaaDoorEShow
import Derived.Deep.LoopGhost
namespace Go.Proofs.YtflghlmikpfnpaaDoor.E
open Go.RowKit

def ul (s : ByteArray) : List UInt8 := s.data.toList
theorem ul_length (s : ByteArray) : (ul s).length = s.size := by unfold ul; rw [Array.length_toList]; rfl
theorem ul_at (s : ByteArray) (j : Nat) (h : j < s.size) : (ul s)[j]? = some (s[j]'h) := by
  unfold ul
  rw [Array.getElem?_toList, Array.getElem?_eq_getElem h]
  rfl
theorem ul_str (s : ByteArray) : strU (ul s) = s := by unfold strU ul; rw [Array.toArray_toList]
theorem ul_of (l : List UInt8) : ul (strU l) = l := by unfold strU ul; rfl
theorem scan_end {s : ByteArray} {j : Nat} (h : s.size ≤ j) (st : Bool) (n k : Nat) : scan ((ul s).drop j) st n k = some (n, k) := by
  rw [List.drop_eq_nil_of_le (by rw [ul_length]; exact h)]; rfl
theorem scan_at {s : ByteArray} {j : Nat} (h : j < s.size) (st : Bool) (n k : Nat) : scan ((ul s).drop j) st n k = if isD (s[j]'h) = true then (if (st = true ∧ n = 0) ∨ (4611686018427387904 - dgv (s[j]'h)) / 10 < n then none else scan ((ul s).drop (j + 1)) true (n * 10 + dgv (s[j]'h)) (k + 1)) else some (n, k) := by
  rw [at_drop (ul_at s j h)]; rfl

def numV (s : ByteArray) (p : Nat) : Value := .tuple #[.int .i64 ((txS (ul s)).num p).1.1, .int .i64 (((txS (ul s)).num p).2 : Int), .bool ((txS (ul s)).num p).1.2]
theorem numV_none {s : ByteArray} {p : Nat} (h : scan ((ul s).drop p) false 0 0 = none) : numV s p = .tuple #[.int .i64 0, .int .i64 (p : Int), .bool false] := by
  unfold numV txS
  simp only [h]
theorem numV_some {s : ByteArray} {p n k : Nat} (h : scan ((ul s).drop p) false 0 0 = some (n, k)) {V J : Int} {b : Bool} (hV : V = (n : Int)) (hJ : J = ((p + k : Nat) : Int)) (hb : b = decide (0 < k)) : numV s p = .tuple #[.int .i64 V, .int .i64 J, .bool b] := by
  unfold numV txS
  simp only [h]
  rw [hV, hJ, hb]

set_option maxRecDepth 100000 in
set_option maxHeartbeats 1600000 in
theorem takeNumber_any (s : ByteArray) (p : Nat) (w : World) (hs : s.size ≤ 140737488355328) (hp : p ≤ s.size) :
    Calls Tryd.prog 54 #[.string s, .int .i64 (p : Int)] w fun e w' => e = .returned (numV s p) ∧ w = w' := by
  go_enter Tryd.func54, Tryd.ntmps54
  go_wp2
  go_loopg [7, 8] (s.size - p) (fun m n i wr => ∃ (k : Nat) (V : Int), p + k ≤ s.size ∧ m = s.size - (p + k) ∧ n = .int .i64 V ∧ i = .int .i64 ((p + k : Nat) : Int) ∧ 0 ≤ V ∧ V ≤ 4611686018427387904 ∧ Hid (scan ((ul s).drop p) false 0 0 = scan ((ul s).drop (p + k)) (decide (0 < k)) V.toNat k) ∧ Hid (w = wr))
  case atStart => exact ⟨0, 0, by omega, by omega, rfl, rfl, by omega, by omega, rfl, rfl⟩
  case round =>
    obtain ⟨k, V, hk, hgk, rfl, rfl, hV0, hV1, hsc, hB⟩ := hrel
    have HG := Lib.hid hgk; clear hgk
    obtain ⟨j, hj⟩ : ∃ j, p + k = j := ⟨_, rfl⟩
    rw [hj] at hk hsc ⊢
    have HJ := Lib.hid hj
    have hpj : p ≤ j := by omega
    have hd0 : decide (0 < k) = decide (p < j) := by congr 1; apply propext; omega
    have HD0 := Lib.hid hd0
    have HVN : Hid ((V.toNat : Int) = V) := by show _ = _; omega
    by_cases hend : j = s.size
    · subst hend
      have HR : Hid (numV s p = .tuple #[.int .i64 V, .int .i64 (s.size : Int), .bool (decide (p < s.size))]) := numV_some (hsc.out.trans (scan_end (by omega) _ _ _)) HVN.out.symm (by rw [HJ.out]) HD0.out.symm
      clear hsc hj hd0
      go_wp2
      refine bodyPost_ret (v := .tuple #[.int .i64 V, .int .i64 (s.size : Int), .bool (decide (p < s.size))]) (by simp [results, Tryd.f54, go_sem]) rfl ?_
      exact ⟨by rw [HR.out], hB.out⟩
    · have hjs : j < s.size := by omega
      have hst := hsc.out.trans (scan_at hjs _ _ _)
      have HB0 := Lib.hid hB.out
      obtain ⟨x, hx⟩ : ∃ x, (s[j]'hjs).toNat = x := ⟨_, rfl⟩
      have hx256 : x < 256 := by rw [← hx]; exact (s[j]'hjs).toNat_lt
      have hisD : isD (s[j]'hjs) = (decide (48 ≤ x) && decide (x ≤ 57)) := by rw [← hx]; rfl
      have hdgv : dgv (s[j]'hjs) = x - 48 := by rw [← hx]; rfl
      rw [hisD, hdgv] at hst
      have HX := Lib.hid hx
      have hx2 : ((s[j]'hjs).toNat : Int) = (x : Int) := by rw [hx]
      clear hisD hdgv hx hsc
      by_cases h48 : 48 ≤ x
      · by_cases h57 : x ≤ 57
        · have hst2 := hst
          rw [if_pos (by simp [h48, h57])] at hst2
          have HST := Lib.hid hst2
          clear hst hst2 hj hd0
          obtain ⟨X, hX⟩ : ∃ X : Int, (x : Int) = X := ⟨_, rfl⟩
          have hi48 : (48 : Int) ≤ X := by omega
          have hi57 : X ≤ 57 := by omega
          rw [hX] at hx2
          clear hx256 h48 h57
          have HX2 := Lib.hid hX
          clear hX
          have HV1 := Lib.hid hV1
          clear hV1
          have HF : Hid ((((p < j ∧ V = 0) ∨ (4611686018427387904 - (X - 48)) / 10 < V) → ((decide (0 < k) = true ∧ V.toNat = 0) ∨ (4611686018427387904 - (x - 48)) / 10 < V.toNat)) ∧ (((decide (0 < k) = true ∧ V.toNat = 0) ∨ (4611686018427387904 - (x - 48)) / 10 < V.toNat) → ((p < j ∧ V = 0) ∨ (4611686018427387904 - (X - 48)) / 10 < V))) := by
            have e1 := HD0.out
            have e2 := HX2.out
            have e3 := HVN.out
            rw [e1]
            constructor
            · rintro (⟨h1, h2⟩ | h)
              · exact .inl ⟨decide_eq_true h1, by omega⟩
              · exact .inr (by omega)
            · rintro (⟨h1, h2⟩ | h)
              · exact .inl ⟨of_decide_eq_true h1, by omega⟩
              · exact .inr (by omega)
          have HN : Hid (V.toNat * 10 + (x - 48) = (V * 10 + (X - 48)).toNat) := by
            have e2 := HX2.out
            show _ = _
            omega
          by_cases hq : (4611686018427387904 - (X - 48)) / 10 < V
          · by_cases hpj2 : p < j
            · by_cases hv0 : V = 0
              · omega
              · have HR : Hid (numV s p = .tuple #[.int .i64 0, .int .i64 (p : Int), .bool false]) := numV_none (HST.out.trans (if_pos (HF.out.1 (by first | exact .inl ⟨hpj2, hv0⟩ | exact .inr hq))))
                clear HF HST
                go_wp2
                refine bodyPost_ret (v := .tuple #[.int .i64 0, .int .i64 (p : Int), .bool false]) (by simp [results, Tryd.f54, go_sem]) rfl ?_
                exact ⟨by rw [HR.out], hB.out⟩
            · have HR : Hid (numV s p = .tuple #[.int .i64 0, .int .i64 (p : Int), .bool false]) := numV_none (HST.out.trans (if_pos (HF.out.1 (by first | exact .inl ⟨hpj2, hv0⟩ | exact .inr hq))))
              clear HF HST
              go_wp2
              refine bodyPost_ret (v := .tuple #[.int .i64 0, .int .i64 (p : Int), .bool false]) (by simp [results, Tryd.f54, go_sem]) rfl ?_
              exact ⟨by rw [HR.out], hB.out⟩
          · by_cases hpj2 : p < j
            · by_cases hv0 : V = 0
              · subst hv0
                have hv0 : (0 : Int) = 0 := rfl
                have HR : Hid (numV s p = .tuple #[.int .i64 0, .int .i64 (p : Int), .bool false]) := numV_none (HST.out.trans (if_pos (HF.out.1 (by first | exact .inl ⟨hpj2, hv0⟩ | exact .inr hq))))
                clear HF HST
                go_wp2
                refine bodyPost_ret (v := .tuple #[.int .i64 0, .int .i64 (p : Int), .bool false]) (by simp [results, Tryd.f54, go_sem]) rfl ?_
                exact ⟨by rw [HR.out], hB.out⟩
              · have HR : Hid (scan ((ul s).drop p) false 0 0 = scan ((ul s).drop (p + (k + 1))) (decide (0 < k + 1)) (V * 10 + (X - 48)).toNat (k + 1)) := by
                  show _ = _
                  rw [HST.out, if_neg (fun h => by have := HF.out.2 h; omega), HN.out, show p + (k + 1) = j + 1 by have := HJ.out; omega, decide_eq_true (Nat.succ_pos k)]
                have HLE : Hid (V * 10 + (X - 48) ≤ 4611686018427387904) := by show _ ≤ _; omega
                have HGE : Hid (0 ≤ V * 10 + (X - 48)) := by show _ ≤ _; omega
                clear HF HST HN
                go_wp2
                go_roundg (s.size - (p + (k + 1)))
                case measure => have := HG.out; have := HJ.out; omega
                case rel => exact ⟨k + 1, V * 10 + (X - 48), by have := HJ.out; omega, rfl, rfl, by have := HJ.out; congr 1; omega, HGE.out, HLE.out, HR, hB⟩
            · have HR : Hid (scan ((ul s).drop p) false 0 0 = scan ((ul s).drop (p + (k + 1))) (decide (0 < k + 1)) (V * 10 + (X - 48)).toNat (k + 1)) := by
                show _ = _
                rw [HST.out, if_neg (fun h => by have := HF.out.2 h; omega), HN.out, show p + (k + 1) = j + 1 by have := HJ.out; omega, decide_eq_true (Nat.succ_pos k)]
              have HLE : Hid (V * 10 + (X - 48) ≤ 4611686018427387904) := by show _ ≤ _; omega
              have HGE : Hid (0 ≤ V * 10 + (X - 48)) := by show _ ≤ _; omega
              clear HF HST HN
              go_wp2
              go_roundg (s.size - (p + (k + 1)))
              case measure => have := HG.out; have := HJ.out; omega
              case rel => exact ⟨k + 1, V * 10 + (X - 48), by have := HJ.out; omega, rfl, rfl, by have := HJ.out; congr 1; omega, HGE.out, HLE.out, HR, hB⟩
        · have HR : Hid (numV s p = .tuple #[.int .i64 V, .int .i64 (j : Int), .bool (decide (p < j))]) := numV_some (hst.trans (if_neg (by simp [h57]))) HVN.out.symm (by rw [HJ.out]) HD0.out.symm
          have hi48 : (48 : Int) ≤ (x : Int) := by omega
          have hi57 : ¬ (x : Int) ≤ 57 := by omega
          clear hst hj hd0
          go_wp2
          refine bodyPost_ret (v := .tuple #[.int .i64 V, .int .i64 (j : Int), .bool (decide (p < j))]) (by simp [results, Tryd.f54, go_sem]) rfl ?_
          exact ⟨by rw [HR.out], hB.out⟩
      · have HR : Hid (numV s p = .tuple #[.int .i64 V, .int .i64 (j : Int), .bool (decide (p < j))]) := numV_some (hst.trans (if_neg (by simp [h48]))) HVN.out.symm (by rw [HJ.out]) HD0.out.symm
        have hi48 : ¬ (48 : Int) ≤ (x : Int) := by omega
        clear hst hj hd0
        go_wp2
        refine bodyPost_ret (v := .tuple #[.int .i64 V, .int .i64 (j : Int), .bool (decide (p < j))]) (by simp [results, Tryd.f54, go_sem]) rfl ?_
        exact ⟨by rw [HR.out], hB.out⟩
end Go.Proofs.YtflghlmikpfnpaaDoor.E
