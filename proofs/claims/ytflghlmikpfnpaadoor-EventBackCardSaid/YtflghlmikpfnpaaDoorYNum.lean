/-
  The program's takeNumber, and the three calls of Parse.
  The program's Parse: its three calls, and as a whole.
  The reference's Digits.
-/
import Derived.Test.YtflghlmikpfnpaaDoorERead2
import Derived.Test.YtflghlmikpfnpaaDoorEShow
import Derived.Deep.LoopGhost
namespace Go.Proofs.YtflghlmikpfnpaaDoor.E
open Go.RowKit

def ul (s : ByteArray) : List UInt8 := s.data.toList
theorem ul_length (s : ByteArray) : (ul s).length = s.size := by unfold ul; rw [Array.length_toList]; rfl
theorem ul_at (s : ByteArray) (j : Nat) (h : j < s.size) : (ul s)[j]? = some (s[j]'h) := by
  unfold ul
  rw [Array.getElem?_toList, Array.getElem?_eq_getElem h]
  rfl
theorem ul_str (s : ByteArray) : strU (ul s) = s := by unfold strU ul; rw [Array.toArray_toList]
theorem ul_of (l : List UInt8) : ul (strU l) = l := by unfold strU ul; rfl
theorem scan_end {s : ByteArray} {j : Nat} (h : s.size ≤ j) (st : Bool) (n k : Nat) : scan ((ul s).drop j) st n k = some (n, k) := by
  rw [List.drop_eq_nil_of_le (by rw [ul_length]; exact h)]; rfl
theorem scan_at {s : ByteArray} {j : Nat} (h : j < s.size) (st : Bool) (n k : Nat) : scan ((ul s).drop j) st n k = if isD (s[j]'h) = true then (if (st = true ∧ n = 0) ∨ (4611686018427387904 - dgv (s[j]'h)) / 10 < n then none else scan ((ul s).drop (j + 1)) true (n * 10 + dgv (s[j]'h)) (k + 1)) else some (n, k) := by
  rw [at_drop (ul_at s j h)]; rfl

def numV (s : ByteArray) (p : Nat) : Value := .tuple #[.int .i64 ((txS (ul s)).num p).1.1, .int .i64 (((txS (ul s)).num p).2 : Int), .bool ((txS (ul s)).num p).1.2]
theorem numV_none {s : ByteArray} {p : Nat} (h : scan ((ul s).drop p) false 0 0 = none) : numV s p = .tuple #[.int .i64 0, .int .i64 (p : Int), .bool false] := by
  unfold numV txS
  simp only [h]
theorem numV_some {s : ByteArray} {p n k : Nat} (h : scan ((ul s).drop p) false 0 0 = some (n, k)) {V J : Int} {b : Bool} (hV : V = (n : Int)) (hJ : J = ((p + k : Nat) : Int)) (hb : b = decide (0 < k)) : numV s p = .tuple #[.int .i64 V, .int .i64 J, .bool b] := by
  unfold numV txS
  simp only [h]
  rw [hV, hJ, hb]

set_option maxRecDepth 100000 in
set_option maxHeartbeats 1600000 in
theorem takeNumber_any (s : ByteArray) (p : Nat) (w : World) (hs : s.size ≤ 140737488355328) (hp : p ≤ s.size) :
    Calls Tryd.prog 54 #[.string s, .int .i64 (p : Int)] w fun e w' => e = .returned (numV s p) ∧ w = w' := by
  go_enter Tryd.func54, Tryd.ntmps54
  go_wp2
  go_loopg [7, 8] (s.size - p) (fun m n i wr => ∃ (k : Nat) (V : Int), p + k ≤ s.size ∧ m = s.size - (p + k) ∧ n = .int .i64 V ∧ i = .int .i64 ((p + k : Nat) : Int) ∧ 0 ≤ V ∧ V ≤ 4611686018427387904 ∧ Hid (scan ((ul s).drop p) false 0 0 = scan ((ul s).drop (p + k)) (decide (0 < k)) V.toNat k) ∧ Hid (w = wr))
  case atStart => exact ⟨0, 0, by omega, by omega, rfl, rfl, by omega, by omega, rfl, rfl⟩
  case round =>
    obtain ⟨k, V, hk, hgk, rfl, rfl, hV0, hV1, hsc, hB⟩ := hrel
    have HG := Lib.hid hgk; clear hgk
    obtain ⟨j, hj⟩ : ∃ j, p + k = j := ⟨_, rfl⟩
    rw [hj] at hk hsc ⊢
    have HJ := Lib.hid hj
    have hpj : p ≤ j := by omega
    have hd0 : decide (0 < k) = decide (p < j) := by congr 1; apply propext; omega
    have HD0 := Lib.hid hd0
    have HVN : Hid ((V.toNat : Int) = V) := by show _ = _; omega
    by_cases hend : j = s.size
    · subst hend
      have HR : Hid (numV s p = .tuple #[.int .i64 V, .int .i64 (s.size : Int), .bool (decide (p < s.size))]) := numV_some (hsc.out.trans (scan_end (by omega) _ _ _)) HVN.out.symm (by rw [HJ.out]) HD0.out.symm
      clear hsc hj hd0
      go_wp2
      refine bodyPost_ret (v := .tuple #[.int .i64 V, .int .i64 (s.size : Int), .bool (decide (p < s.size))]) (by simp [results, Tryd.f54, go_sem]) rfl ?_
      exact ⟨by rw [HR.out], hB.out⟩
    · have hjs : j < s.size := by omega
      have hst := hsc.out.trans (scan_at hjs _ _ _)
      have HB0 := Lib.hid hB.out
      obtain ⟨x, hx⟩ : ∃ x, (s[j]'hjs).toNat = x := ⟨_, rfl⟩
      have hx256 : x < 256 := by rw [← hx]; exact (s[j]'hjs).toNat_lt
      have hisD : isD (s[j]'hjs) = (decide (48 ≤ x) && decide (x ≤ 57)) := by rw [← hx]; rfl
      have hdgv : dgv (s[j]'hjs) = x - 48 := by rw [← hx]; rfl
      rw [hisD, hdgv] at hst
      have HX := Lib.hid hx
      have hx2 : ((s[j]'hjs).toNat : Int) = (x : Int) := by rw [hx]
      clear hisD hdgv hx hsc
      by_cases h48 : 48 ≤ x
      · by_cases h57 : x ≤ 57
        · have hst2 := hst
          rw [if_pos (by simp [h48, h57])] at hst2
          have HST := Lib.hid hst2
          clear hst hst2 hj hd0
          obtain ⟨X, hX⟩ : ∃ X : Int, (x : Int) = X := ⟨_, rfl⟩
          have hi48 : (48 : Int) ≤ X := by omega
          have hi57 : X ≤ 57 := by omega
          rw [hX] at hx2
          clear hx256 h48 h57
          have HX2 := Lib.hid hX
          clear hX
          have HV1 := Lib.hid hV1
          clear hV1
          have HF : Hid ((((p < j ∧ V = 0) ∨ (4611686018427387904 - (X - 48)) / 10 < V) → ((decide (0 < k) = true ∧ V.toNat = 0) ∨ (4611686018427387904 - (x - 48)) / 10 < V.toNat)) ∧ (((decide (0 < k) = true ∧ V.toNat = 0) ∨ (4611686018427387904 - (x - 48)) / 10 < V.toNat) → ((p < j ∧ V = 0) ∨ (4611686018427387904 - (X - 48)) / 10 < V))) := by
            have e1 := HD0.out
            have e2 := HX2.out
            have e3 := HVN.out
            rw [e1]
            constructor
            · rintro (⟨h1, h2⟩ | h)
              · exact .inl ⟨decide_eq_true h1, by omega⟩
              · exact .inr (by omega)
            · rintro (⟨h1, h2⟩ | h)
              · exact .inl ⟨of_decide_eq_true h1, by omega⟩
              · exact .inr (by omega)
          have HN : Hid (V.toNat * 10 + (x - 48) = (V * 10 + (X - 48)).toNat) := by
            have e2 := HX2.out
            show _ = _
            omega
          by_cases hq : (4611686018427387904 - (X - 48)) / 10 < V
          · by_cases hpj2 : p < j
            · by_cases hv0 : V = 0
              · omega
              · have HR : Hid (numV s p = .tuple #[.int .i64 0, .int .i64 (p : Int), .bool false]) := numV_none (HST.out.trans (if_pos (HF.out.1 (by first | exact .inl ⟨hpj2, hv0⟩ | exact .inr hq))))
                clear HF HST
                go_wp2
                refine bodyPost_ret (v := .tuple #[.int .i64 0, .int .i64 (p : Int), .bool false]) (by simp [results, Tryd.f54, go_sem]) rfl ?_
                exact ⟨by rw [HR.out], hB.out⟩
            · have HR : Hid (numV s p = .tuple #[.int .i64 0, .int .i64 (p : Int), .bool false]) := numV_none (HST.out.trans (if_pos (HF.out.1 (by first | exact .inl ⟨hpj2, hv0⟩ | exact .inr hq))))
              clear HF HST
              go_wp2
              refine bodyPost_ret (v := .tuple #[.int .i64 0, .int .i64 (p : Int), .bool false]) (by simp [results, Tryd.f54, go_sem]) rfl ?_
              exact ⟨by rw [HR.out], hB.out⟩
          · by_cases hpj2 : p < j
            · by_cases hv0 : V = 0
              · subst hv0
                have hv0 : (0 : Int) = 0 := rfl
                have HR : Hid (numV s p = .tuple #[.int .i64 0, .int .i64 (p : Int), .bool false]) := numV_none (HST.out.trans (if_pos (HF.out.1 (by first | exact .inl ⟨hpj2, hv0⟩ | exact .inr hq))))
                clear HF HST
                go_wp2
                refine bodyPost_ret (v := .tuple #[.int .i64 0, .int .i64 (p : Int), .bool false]) (by simp [results, Tryd.f54, go_sem]) rfl ?_
                exact ⟨by rw [HR.out], hB.out⟩
              · have HR : Hid (scan ((ul s).drop p) false 0 0 = scan ((ul s).drop (p + (k + 1))) (decide (0 < k + 1)) (V * 10 + (X - 48)).toNat (k + 1)) := by
                  show _ = _
                  rw [HST.out, if_neg (fun h => by have := HF.out.2 h; omega), HN.out, show p + (k + 1) = j + 1 by have := HJ.out; omega, decide_eq_true (Nat.succ_pos k)]
                have HLE : Hid (V * 10 + (X - 48) ≤ 4611686018427387904) := by show _ ≤ _; omega
                have HGE : Hid (0 ≤ V * 10 + (X - 48)) := by show _ ≤ _; omega
                clear HF HST HN
                go_wp2
                go_roundg (s.size - (p + (k + 1)))
                case measure => have := HG.out; have := HJ.out; omega
                case rel => exact ⟨k + 1, V * 10 + (X - 48), by have := HJ.out; omega, rfl, rfl, by have := HJ.out; congr 1; omega, HGE.out, HLE.out, HR, hB⟩
            · have HR : Hid (scan ((ul s).drop p) false 0 0 = scan ((ul s).drop (p + (k + 1))) (decide (0 < k + 1)) (V * 10 + (X - 48)).toNat (k + 1)) := by
                show _ = _
                rw [HST.out, if_neg (fun h => by have := HF.out.2 h; omega), HN.out, show p + (k + 1) = j + 1 by have := HJ.out; omega, decide_eq_true (Nat.succ_pos k)]
              have HLE : Hid (V * 10 + (X - 48) ≤ 4611686018427387904) := by show _ ≤ _; omega
              have HGE : Hid (0 ≤ V * 10 + (X - 48)) := by show _ ≤ _; omega
              clear HF HST HN
              go_wp2
              go_roundg (s.size - (p + (k + 1)))
              case measure => have := HG.out; have := HJ.out; omega
              case rel => exact ⟨k + 1, V * 10 + (X - 48), by have := HJ.out; omega, rfl, rfl, by have := HJ.out; congr 1; omega, HGE.out, HLE.out, HR, hB⟩
        · have HR : Hid (numV s p = .tuple #[.int .i64 V, .int .i64 (j : Int), .bool (decide (p < j))]) := numV_some (hst.trans (if_neg (by simp [h57]))) HVN.out.symm (by rw [HJ.out]) HD0.out.symm
          have hi48 : (48 : Int) ≤ (x : Int) := by omega
          have hi57 : ¬ (x : Int) ≤ 57 := by omega
          clear hst hj hd0
          go_wp2
          refine bodyPost_ret (v := .tuple #[.int .i64 V, .int .i64 (j : Int), .bool (decide (p < j))]) (by simp [results, Tryd.f54, go_sem]) rfl ?_
          exact ⟨by rw [HR.out], hB.out⟩
      · have HR : Hid (numV s p = .tuple #[.int .i64 V, .int .i64 (j : Int), .bool (decide (p < j))]) := numV_some (hst.trans (if_neg (by simp [h48]))) HVN.out.symm (by rw [HJ.out]) HD0.out.symm
        have hi48 : ¬ (48 : Int) ≤ (x : Int) := by omega
        clear hst hj hd0
        go_wp2
        refine bodyPost_ret (v := .tuple #[.int .i64 V, .int .i64 (j : Int), .bool (decide (p < j))]) (by simp [results, Tryd.f54, go_sem]) rfl ?_
        exact ⟨by rw [HR.out], hB.out⟩
end Go.Proofs.YtflghlmikpfnpaaDoor.E

namespace Go.Proofs.YtflghlmikpfnpaaDoor.E
open Go.RowKit

/-- Parse's variables: the text, the place, the call that looks for a mark. -/
structure PS (s : ByteArray) (gs ga gm : Nat) (p : Nat) (W : World) : Prop where
  le : p ≤ s.size
  bs : Boxed W gs 9 (.string s)
  ba : Boxed W ga 3 (.int .i64 (p : Int))
  bm : Boxed W gm 67 (.func (.func 50) #[] #[.pointer (some ⟨ga, 0, none⟩), .pointer (some ⟨gs, 0, none⟩)])
theorem PS.put {s : ByteArray} {gs ga gm p q : Nat} {W : World} (h : PS s gs ga gm p W) (hq : q ≤ s.size) (h1 : gs ≠ ga) (h2 : gm ≠ ga) {v : Value} (hv : v = .int .i64 (q : Int)) : PS s gs ga gm q (W.setCell ⟨ga, 0, none⟩ v) := by
  subst hv
  exact ⟨hq, (Below.heap_setCell W ⟨ga, 0, none⟩ _ gs h1).trans h.bs, h.ba.set _, (Below.heap_setCell W ⟨ga, 0, none⟩ _ gm h2).trans h.bm⟩
theorem kept_ga (ga : Nat) (W : World) (v : Value) : KB (fun k => k = ga) W (W.setCell ⟨ga, 0, none⟩ v) := KB.setCell (X := fun k => k = ga) (KB.refl _ W) (p := ⟨ga, 0, none⟩) rfl _

set_option maxRecDepth 100000 in
set_option maxHeartbeats 1600000 in
theorem mark_any (s : ByteArray) (hs : s.size ≤ 140737488355328) (gs ga gm p : Nat) (x : UInt8) (W : World) (h : PS s gs ga gm p W) (h1 : gs ≠ ga) (h2 : gm ≠ ga) :
    Calls Tryd.prog 50 #[.int .u8 (x.toNat : Int), .pointer (some ⟨ga, 0, none⟩), .pointer (some ⟨gs, 0, none⟩)] W fun e W' => e = .returned (.bool ((txS (ul s)).mrk x p).1) ∧ PS s gs ga gm ((txS (ul s)).mrk x p).2 W' ∧ KB (fun k => k = ga) W W' := by
  have c1 := h.bs.cell
  have c2 := h.ba.cell
  have c3 := h.ba.frozen
  have hle := h.le
  have HH := Lib.hid h
  have HE : Hid ((txS (ul s)).mrk x p = if (ul s)[p]? = some x then (true, p + 1) else (false, p)) := rfl
  clear h
  by_cases hend : p = s.size
  · have hN : (ul s)[p]? = none := List.getElem?_eq_none (by rw [ul_length]; omega)
    have HE2 : Hid ((txS (ul s)).mrk x p = (false, p)) := by show _ = _; rw [HE.out, if_neg (by rw [hN]; simp)]
    clear HE hN
    go_enter Tryd.func50, Tryd.ntmps50
    go_wp2
    go_ret
    rw [HE2.out]
    exact ⟨rfl, HH.out, KB.refl _ _⟩
  · have hp : p < s.size := by omega
    have hat := ul_at s p hp
    obtain ⟨y, hy⟩ : ∃ y : Int, ((s[p]'hp).toNat : Int) = y := ⟨_, rfl⟩
    obtain ⟨z, hz⟩ : ∃ z : Int, (x.toNat : Int) = z := ⟨_, rfl⟩
    have hyz : (y = z) ↔ (s[p]'hp) = x := by
      constructor
      · intro h; apply UInt8.toNat_inj.1; omega
      · intro h; subst h; omega
    have HYZ := Lib.hid hyz
    have HAT := Lib.hid hat
    clear hyz hat
    rw [hz]
    clear hz
    by_cases e : y = z
    · have HE2 : Hid ((txS (ul s)).mrk x p = (true, p + 1)) := by show _ = _; rw [HE.out, if_pos (by rw [HAT.out, HYZ.out.1 e])]
      have HP : Hid (PS s gs ga gm (p + 1) (W.setCell ⟨ga, 0, none⟩ (.int .i64 ((p : Int) + 1)))) := HH.out.put (by omega) h1 h2 (by simp)
      clear HE HAT HYZ
      go_enter Tryd.func50, Tryd.ntmps50
      go_wp2
      go_ret
      rw [HE2.out]
      exact ⟨rfl, HP.out, kept_ga _ _ _⟩
    · have HE2 : Hid ((txS (ul s)).mrk x p = (false, p)) := by show _ = _; rw [HE.out, if_neg (by rw [HAT.out]; intro h; injection h with h; exact e (HYZ.out.2 h))]
      have hne : (y != z) = true := by simp [e]
      clear HE HAT HYZ
      go_enter Tryd.func50, Tryd.ntmps50
      go_wp2
      go_ret
      rw [HE2.out]
      exact ⟨rfl, HH.out, KB.refl _ _⟩

set_option maxRecDepth 100000 in
theorem inner_any (s : ByteArray) (hs : s.size ≤ 140737488355328) (gs ga gm p : Nat) (W : World) (h : PS s gs ga gm p W) (h1 : gs ≠ ga) (h2 : gm ≠ ga) :
    Calls Tryd.prog 52 #[.pointer (some ⟨gm, 0, none⟩)] W fun e W' => e = .returned (.bool ((txS (ul s)).inn p).1) ∧ PS s gs ga gm ((txS (ul s)).inn p).2 W' ∧ KB (fun k => k = ga) W W' := by
  have hm := mark_any s hs gs ga gm p 40 W h h1 h2
  have hm' : Calls Tryd.prog 50 #[.int .u8 40, .pointer (some ⟨ga, 0, none⟩), .pointer (some ⟨gs, 0, none⟩)] W fun e W' => e = .returned (.bool ((txS (ul s)).inn p).1) ∧ PS s gs ga gm ((txS (ul s)).inn p).2 W' ∧ KB (fun k => k = ga) W W' := hm
  have c3 := h.bm.cell
  clear hm h
  go_enter Tryd.func52, Tryd.ntmps52
  go_wp2_with fail
  refine hm'.mono ?_
  rintro e W' ⟨rfl, h3, h4⟩
  go_wp2
  go_ret
  exact ⟨rfl, h3, h4⟩

theorem scan_le : ∀ (r : List UInt8) (st : Bool) (n k m j : Nat), scan r st n k = some (m, j) → j ≤ k + r.length
  | [], _, _, _, _, _, h => by simp [scan] at h; simp; omega
  | b :: r, st, n, k, m, j, h => by
    rw [scan] at h
    rw [List.length_cons]
    split at h
    · split at h
      · cases h
      · have := scan_le r _ _ _ _ _ h; omega
    · simp at h; omega
theorem num_le (s : ByteArray) (p : Nat) (hp : p ≤ s.size) : ((txS (ul s)).num p).2 ≤ s.size := by
  have hl := ul_length s
  unfold txS
  simp only
  split
  · exact hp
  · rename_i n k h
    have := scan_le _ _ _ _ _ _ h
    rw [List.length_drop] at this
    simp only
    omega

set_option maxRecDepth 100000 in
theorem number_any (s : ByteArray) (hs : s.size ≤ 140737488355328) (gs ga gm p : Nat) (W : World) (h : PS s gs ga gm p W) (h1 : gs ≠ ga) (h2 : gm ≠ ga) :
    Calls Tryd.prog 53 #[.pointer (some ⟨gs, 0, none⟩), .pointer (some ⟨ga, 0, none⟩)] W fun e W' => e = .returned (.tuple #[.int .i64 ((txS (ul s)).num p).1.1, .bool ((txS (ul s)).num p).1.2]) ∧ PS s gs ga gm ((txS (ul s)).num p).2 W' ∧ KB (fun k => k = ga) W W' := by
  have hn := takeNumber_any s p W hs h.le
  have HL := Lib.hid (num_le s p h.le)
  have c1 := h.bs.cell
  have c2 := h.ba.cell
  have c3 := h.ba.frozen
  unfold numV at hn
  have HH := Lib.hid h
  obtain ⟨⟨⟨n, ok⟩, q⟩, hq⟩ : ∃ x, (txS (ul s)).num p = x := ⟨_, rfl⟩
  rw [hq] at hn HL ⊢
  clear h hq
  have HP : Hid (PS s gs ga gm q (W.setCell ⟨ga, 0, none⟩ (.int .i64 (q : Int)))) := HH.out.put HL.out h1 h2 rfl
  clear HH HL
  simp only at hn ⊢
  go_enter Tryd.func53, Tryd.ntmps53
  go_wp2_with fail
  refine hn.mono ?_
  rintro e W' ⟨rfl, rfl⟩
  go_wp2
  go_ret2
  exact ⟨rfl, HP.out, kept_ga _ _ _⟩

theorem parse_src (s : ByteArray) (hs : s.size ≤ 140737488355328) (gs ga gm base : Nat) (h1 : gs ≠ ga) (h2 : gm ≠ ga) (b1 : gs < base) (b2 : ga < base) (b3 : gm < base) :
    SrcW base ga (txS (ul s)) 52 53 50 #[.pointer (some ⟨gm, 0, none⟩)] #[.pointer (some ⟨gs, 0, none⟩), .pointer (some ⟨ga, 0, none⟩)] #[.pointer (some ⟨ga, 0, none⟩), .pointer (some ⟨gs, 0, none⟩)] (PS s gs ga gm) where
  lt := b2
  st _ _ _ h _ _ hk := ⟨h.le, (hk gs b1).trans h.bs, (hk ga b2).trans h.ba, (hk gm b3).trans h.bm⟩
  pos p _ := num_pos _ p
  cI p W h _ := inner_any s hs gs ga gm p W h h1 h2
  cN p W h _ := number_any s hs gs ga gm p W h h1 h2
  cM x p W h _ := mark_any s hs gs ga gm p x W h h1 h2

theorem call50 (args : Array Value) (w : World) : (callFunc 50 args).run Tryd.prog w = .ok (.enter 50 args) w := by simp [go_sem]
theorem call52 (args : Array Value) (w : World) : (callFunc 52 args).run Tryd.prog w = .ok (.enter 52 args) w := by simp [go_sem]
theorem call53 (args : Array Value) (w : World) : (callFunc 53 args).run Tryd.prog w = .ok (.enter 53 args) w := by simp [go_sem]

/-- What Parse answers. -/
def ParseR (r : Option Tr) (w : World) (e : Ending) (w' : World) : Prop :=
  Below w.heap.size w w' ∧ ((∃ t v, r = some t ∧ e = .returned (.tuple #[v, .int .i64 0]) ∧ InP (New w w') w' t v) ∨ (r = none ∧ e = .returned (.tuple #[tv 0 none 0 0, .int .i64 50])))

set_option maxRecDepth 100000 in
set_option maxHeartbeats 3200000 in
theorem parse_any (s : ByteArray) (hs : s.size ≤ 140737488355328) (w : World) : Calls Tryd.prog 27 #[.string s] w (ParseR (parse (ul s)) w) := by
  obtain ⟨W4, hW4⟩ : ∃ W4, (((w.alloc (.cells #[.string s] 9)).alloc (.cells #[.int .i64 0, .slice none 0 0] 24)).alloc (.cells #[.int .i64 0] 3)).alloc (.cells #[.func (.func 50) #[] #[.pointer (some ⟨w.heap.size + 1 + 1, 0, none⟩), .pointer (some ⟨w.heap.size, 0, none⟩)]] 67) = W4 := ⟨_, rfl⟩
  have hB4 : Below w.heap.size w W4 := by rw [← hW4]; exact four_boxes w _ _ _ _
  have hs4 : W4.heap.size = w.heap.size + 4 := by rw [← hW4]; simp
  have b1 : Boxed W4 w.heap.size 9 (.string s) := by
    have h := (((Boxed.new w 9 (.string s)).alloc (.cells #[.int .i64 0, .slice none 0 0] 24)).alloc (.cells #[.int .i64 0] 3)).alloc (.cells #[.func (.func 50) #[] #[.pointer (some ⟨w.heap.size + 1 + 1, 0, none⟩), .pointer (some ⟨w.heap.size, 0, none⟩)]] 67)
    rw [hW4] at h
    exact h
  have b2 : Boxed W4 (w.heap.size + 1 + 1) 3 (.int .i64 ((0 : Nat) : Int)) := by
    have h := (Boxed.new ((w.alloc (.cells #[.string s] 9)).alloc (.cells #[.int .i64 0, .slice none 0 0] 24)) 3 (.int .i64 0)).alloc (.cells #[.func (.func 50) #[] #[.pointer (some ⟨w.heap.size + 1 + 1, 0, none⟩), .pointer (some ⟨w.heap.size, 0, none⟩)]] 67)
    rw [hW4] at h
    simp only [World.size_alloc] at h
    exact h
  have b3 : Boxed W4 (w.heap.size + 1 + 1 + 1) 67 (.func (.func 50) #[] #[.pointer (some ⟨w.heap.size + 1 + 1, 0, none⟩), .pointer (some ⟨w.heap.size, 0, none⟩)]) := by
    have h := Boxed.new (((w.alloc (.cells #[.string s] 9)).alloc (.cells #[.int .i64 0, .slice none 0 0] 24)).alloc (.cells #[.int .i64 0] 3)) 67 (.func (.func 50) #[] #[.pointer (some ⟨w.heap.size + 1 + 1, 0, none⟩), .pointer (some ⟨w.heap.size, 0, none⟩)])
    rw [hW4] at h
    simp only [World.size_alloc] at h
    exact h
  have hX4 : Box2 W4 (w.heap.size + 1) := by
    rw [← hW4]
    have h := (((Box2.new (w.alloc (.cells #[.string s] 9)) (.int .i64 0) (.slice none 0 0) 24).below ((Below.refl _ _).alloc (Nat.le_refl _) (.cells #[.int .i64 0] 3)) (by simp)).below ((Below.refl _ _).alloc (Nat.le_refl _) (.cells #[.func (.func 50) #[] #[.pointer (some ⟨w.heap.size + 1 + 1, 0, none⟩), .pointer (some ⟨w.heap.size, 0, none⟩)]] 67)) (by simp))
    simpa only [World.size_alloc] using h
  have hsrc := parse_src s hs w.heap.size (w.heap.size + 1 + 1) (w.heap.size + 1 + 1 + 1) W4.heap.size (by omega) (by omega) (by omega) (by omega) (by omega)
  have hcR := read_any hsrc call52 call53 call50 0 W4 ⟨by omega, b1, b2, b3⟩ (Nat.le_refl _)
  have HPE : Hid (parse (ul s) = (rd (txS (ul s)) 34 0 0 0 0).bind fun x => if x.2.1 < s.size then none else some x.1) := by show _ = _; rw [← ul_length]; rfl
  have HX4 := Lib.hid hX4
  have HB4 := Lib.hid hB4
  have HW4 := Lib.hid hW4
  clear hX4 b1 b2 b3 hB4 hW4 hsrc
  go_enter Tryd.func27, Tryd.ntmps27
  go_wp2_with fail
  rw [HW4.out]
  refine hcR.mono ?_
  rintro e w5 ⟨hk5, hcase⟩
  obtain ⟨cs, ty, hx1, hx2⟩ := HX4.out
  have hX5 : Box2 w5 (w.heap.size + 1) := ⟨cs, ty, (hk5.same _ (by omega) (by omega)).trans hx1, hx2⟩
  have hb5 : Below w.heap.size w w5 := ⟨hk5.os.trans HB4.out.os, hk5.tape.trans HB4.out.tape, hk5.output.trans HB4.out.output, Nat.le_trans HB4.out.size hk5.size, fun k h1 => (hk5.same k (by omega) (by omega)).trans (HB4.out.block k h1)⟩
  clear hcR HX4 hx1
  rcases hcase with ⟨t, p', c', v, hr, rfl, hin, hR5⟩ | ⟨hr, rfl⟩
  · obtain ⟨A, n, c, rfl⟩ := hin.form
    have HRD : Hid (parse (ul s) = if p' < s.size then none else some t) := by show _ = _; rw [HPE.out, hr]; rfl
    obtain ⟨W6, hW6⟩ : ∃ W6, w5.alloc (.cells #[.int .i64 t.N, .slice A n c] 24) = W6 := ⟨_, rfl⟩
    have hb6 : Below w5.heap.size w5 W6 := by rw [← hW6]; exact (Below.refl _ w5).alloc (Nat.le_refl _) _
    have hs6 : W6.heap.size = w5.heap.size + 1 := by rw [← hW6]; simp
    have hX6 : Box2 W6 (w.heap.size + 1) := hX5.below hb6 hX5.lt
    have hin6 : InP (New w W6) W6 t (tv t.N A n c) := (hin.stay hb6).more fun b h => ⟨by have := h.1; omega, by have := h.2; omega⟩
    have hB6 : Below w.heap.size w W6 := hb5.trans (hb6.mono hb5.size)
    have z0 : W6.cell? ⟨w5.heap.size, 0, none⟩ = some (.int .i64 t.N) := by rw [← hW6]; simp [go_sem]
    have z1 : W6.cell? ⟨w5.heap.size, 1, none⟩ = some (.slice A n c) := by rw [← hW6]; simp [go_sem]
    have z2 := (boxed_below hR5.bs hb6 hR5.bs.lt).cell
    have z3 := (boxed_below hR5.ba hb6 hR5.ba.lt).cell
    have hle := hR5.le
    obtain ⟨u0, u1, ⟨y0, y1⟩, y2, y3⟩ := hX6.facts
    have HK : Hid (∀ u1 u2, Below w.heap.size w ((W6.setCell ⟨w.heap.size + 1, 0, none⟩ u1).setCell ⟨w.heap.size + 1, 1, none⟩ u2)) := fun u1 u2 => (hB6.setCell (p := ⟨w.heap.size + 1, 0, none⟩) (by show _ ≤ _ + 1; omega) _).setCell (p := ⟨w.heap.size + 1, 1, none⟩) (by show _ ≤ _ + 1; omega) _
    have HIN : Hid (∀ u1 u2, InP (New w ((W6.setCell ⟨w.heap.size + 1, 0, none⟩ u1).setCell ⟨w.heap.size + 1, 1, none⟩ u2)) ((W6.setCell ⟨w.heap.size + 1, 0, none⟩ u1).setCell ⟨w.heap.size + 1, 1, none⟩ u2) t (tv t.N A n c)) := fun u1 u2 => (InP.set2 (hX6.set _) (InP.set2 hX6 hin6)).more fun b h => ⟨h.1, by rw [size_set, size_set]; exact h.2⟩
    have hgs : w5.heap.size = w5.heap.size := rfl
    clear hr hR5 hin hin6 hX6 hX5 hB6 hb6 hb5 hk5 HPE hs6
    generalize t.N = tn at *
    unfold tv
    have HW6 := Lib.hid hW6
    by_cases hp : p' < s.size
    · have HN : Hid (parse (ul s) = none) := by show _ = _; rw [HRD.out, if_pos hp]
      clear HRD HIN
      go_wp2
      refine bodyPost_ret (v := .tuple #[tv 0 none 0 0, .int .i64 50]) (by simp [results, Tryd.f27, go_sem, tv, y0, y1]) rfl ?_
      exact ⟨HK.out _ _, .inr ⟨HN.out, rfl⟩⟩
    · have HN : Hid (parse (ul s) = some t) := by show _ = _; rw [HRD.out, if_neg hp]
      clear HRD
      go_wp2
      refine bodyPost_ret (v := .tuple #[tv tn A n c, .int .i64 0]) (by simp [results, Tryd.f27, go_sem, tv, y0, y1]) rfl ?_
      exact ⟨HK.out _ _, .inl ⟨t, _, HN.out, rfl, HIN.out _ _⟩⟩
  · have HN : Hid (parse (ul s) = none) := by show _ = _; rw [HPE.out, hr]; rfl
    have hX6 : Box2 (w5.alloc (.cells #[.int .i64 0, .slice none 0 0] 24)) (w.heap.size + 1) := hX5.below ((Below.refl _ w5).alloc (Nat.le_refl _) _) hX5.lt
    obtain ⟨u0, u1, ⟨y0, y1⟩, y2, y3⟩ := hX6.facts
    have hB6 : Below w.heap.size w (w5.alloc (.cells #[.int .i64 0, .slice none 0 0] 24)) := hb5.trans (((Below.refl _ w5).alloc (Nat.le_refl _) _).mono hb5.size)
    have HK : Hid (∀ u1 u2, Below w.heap.size w (((w5.alloc (.cells #[.int .i64 0, .slice none 0 0] 24)).setCell ⟨w.heap.size + 1, 0, none⟩ u1).setCell ⟨w.heap.size + 1, 1, none⟩ u2)) := fun u1 u2 => (hB6.setCell (p := ⟨w.heap.size + 1, 0, none⟩) (by show _ ≤ _ + 1; omega) _).setCell (p := ⟨w.heap.size + 1, 1, none⟩) (by show _ ≤ _ + 1; omega) _
    clear hr hX6 hB6 hX5 hb5 HPE hk5
    unfold tv
    go_wp2
    refine bodyPost_ret (v := .tuple #[tv 0 none 0 0, .int .i64 50]) (by simp [results, Tryd.f27, go_sem, tv, y0, y1]) rfl ?_
    exact ⟨HK.out _ _, .inr ⟨HN.out, rfl⟩⟩
end Go.Proofs.YtflghlmikpfnpaaDoor.E

namespace Go.Proofs.YtflghlmikpfnpaaDoor.E
open Go.RowKit

theorem strU_append (l m : List UInt8) : strU l ++ strU m = strU (l ++ m) := by
  apply ByteArray.ext
  rw [ByteArray.data_append]
  simp [strU]
theorem strU_size (l : List UInt8) : (strU l).size = l.length := by simp [strU, ByteArray.size]
theorem strU_nil {l : List UInt8} (h : strU l = ⟨#[]⟩) : l = [] := by
  have := strU_size l
  rw [h] at this
  exact List.eq_nil_of_length_eq_zero (by rw [← this]; rfl)
/-- What Digits has: the digits behind, and the number ahead of them. -/
def Dg (N V : Nat) (l : List UInt8) : Prop := (l = [] ∧ V = N) ∨ (l ≠ [] ∧ ((V = 0 ∧ Lib.decDigits N = l) ∨ (1 ≤ V ∧ Lib.decDigits N = Lib.decDigits V ++ l)))
theorem Dg.step {N V : Nat} {l : List UInt8} (h : Dg N V l) (hv : l = [] ∨ 0 < V) : Dg N (V / 10) (UInt8.ofNat (48 + V % 10) :: l) := by
  have hd : (V / 10 = 0 ∧ Lib.decDigits V = [UInt8.ofNat (48 + V % 10)]) ∨ (1 ≤ V / 10 ∧ Lib.decDigits V = Lib.decDigits (V / 10) ++ [UInt8.ofNat (48 + V % 10)]) := by
    by_cases h1 : V < 10
    · exact .inl ⟨by omega, by rw [Lib.decDigits_one h1, Nat.mod_eq_of_lt h1]⟩
    · refine .inr ⟨by omega, ?_⟩
      have := dec_snoc (n := V / 10) (d := V % 10) (by omega) (by omega)
      rw [show V / 10 * 10 + V % 10 = V by omega] at this
      exact this
  refine .inr ⟨by simp, ?_⟩
  rcases h with ⟨rfl, rfl⟩ | ⟨hl, ⟨h1, h2⟩ | ⟨h1, h2⟩⟩
  · rcases hd with ⟨d1, d2⟩ | ⟨d1, d2⟩
    · exact .inl ⟨d1, d2⟩
    · exact .inr ⟨d1, d2⟩
  · exact absurd hv (by simp [hl]; omega)
  · rcases hd with ⟨d1, d2⟩ | ⟨d1, d2⟩
    · exact .inl ⟨d1, by rw [h2, d2]; rfl⟩
    · exact .inr ⟨d1, by rw [h2, d2]; simp⟩
theorem Dg.done {N V : Nat} {l : List UInt8} (h : Dg N V l) (h1 : l ≠ []) (h2 : V = 0) : Lib.decDigits N = l := by
  rcases h with ⟨h, _⟩ | ⟨_, ⟨_, h⟩ | ⟨h, _⟩⟩
  · exact absurd h h1
  · exact h
  · omega
theorem Dg.len {N V : Nat} {l : List UInt8} (h : Dg N V l) (hN : N ≤ 4611686018427387904) : l.length ≤ 20 := by
  have hi := itoa_len (n := (N : Int)) (by omega) (by omega)
  rw [Lib.itoa_nonneg] at hi
  rcases h with ⟨rfl, _⟩ | ⟨_, ⟨_, h⟩ | ⟨_, h⟩⟩
  · simp
  · rw [← h]; omega
  · rw [h, List.length_append] at hi; omega

theorem run_one (wr : World) (b : UInt8) (X : Int) (hX : X = (b.toNat : Int)) : (convert 38 9 (.slice (some ⟨wr.heap.size, 0, none⟩) 1 1)).run Tryd.prog (wr.alloc (.cells #[.int .u8 X] 5)) = .ok (.string (strU [b])) (wr.alloc (.cells #[.int .u8 X] 5)) := by
  subst hX
  have := run_convert_bytes_arg (P := Tryd.prog) (wr.alloc (.cells #[.int .u8 (b.toNat : Int)] 5)) 38 5 Tryd.underlying38 Tryd.underlying5 wr.heap.size 0 1 1 [(b.toNat : Int)] (by simp) (fun i hi => by
    have : i = 0 := by simp at hi; omega
    subst this
    simp [go_sem]) 9 Tryd.underlying9
  rw [this]
  unfold strOfNums strU
  simp

set_option maxRecDepth 100000 in
set_option maxHeartbeats 1600000 in
theorem digits_any (n : Int) (w : World) (h0 : 0 ≤ n) (h1 : n ≤ 4611686018427387904) :
    Calls Tryd.prog 76 #[.int .i64 n] w fun e w' => e = .returned (.string (strU (Lib.itoa n))) ∧ Below w.heap.size w w' := by
  have HIT : Hid (Lib.itoa n = Lib.decDigits n.toNat) := by
    show _ = _
    rw [← Lib.itoa_nonneg]; congr 1; omega
  have HN0 := Lib.hid h0
  have HN1 := Lib.hid h1
  clear h0 h1
  go_enter Tryd.func76, Tryd.ntmps76
  go_wp2
  go_loopg [0, 3] (n.toNat + 1) (fun m v s wr => ∃ (V : Int) (l : List UInt8) (S : ByteArray), m = (if l = [] then V.toNat + 1 else V.toNat) ∧ v = .int .i64 V ∧ s = .string S ∧ 0 ≤ V ∧ V ≤ 4611686018427387904 ∧ Hid (S = strU l) ∧ Hid (Dg n.toNat V.toNat l) ∧ Hid (Below w.heap.size w wr))
  case atStart => exact ⟨n, [], _, by simp, rfl, rfl, HN0.out, HN1.out, rfl, .inl ⟨rfl, rfl⟩, Below.refl _ _⟩
  case round =>
    obtain ⟨V, l, S, hgk, rfl, rfl, hV0, hV1, hS, hD, hB⟩ := hrel
    have HG := Lib.hid hgk; clear hgk
    have hlen := hD.out.len (by have := HN0.out; have := HN1.out; omega)
    have hsz : S.size = l.length := by rw [hS.out, strU_size]
    by_cases hl : l = []
    · have hS0 : S = ⟨#[]⟩ := by rw [hS.out, hl]; rfl
      subst hS0
      have HLV : Hid (l = [] ∨ 0 < V.toNat) := .inl hl
      have HGG : Hid (V.toNat < gk) := by have := HG.out; rw [if_pos hl] at this; show _ < _; omega
      have HD2 := Lib.hid (hD.out.step (HLV.out))
      obtain ⟨b, hb⟩ : ∃ b, UInt8.ofNat (48 + V.toNat % 10) = b := ⟨_, rfl⟩
      have HX : Hid (48 + V % 10 = (b.toNat : Int)) := by
        show _ = _
        rw [← hb, UInt8.toNat_ofNat']
        omega
      rw [hb] at HD2
      have hcv := run_one wr b _ HX.out
      obtain ⟨T1, hT1⟩ : ∃ T, strU [b] = T := ⟨_, rfl⟩
      have hT2 : T1.size = 1 := by rw [← hT1, strU_size]; rfl
      rw [hT1] at hcv
      have HS2 : Hid (T1 ++ ⟨#[]⟩ = strU (b :: l)) := by show _ = _; rw [← hT1, hS.out, strU_append]; rfl
      have HB2 : Hid (Below w.heap.size w (wr.alloc (.cells #[.int .u8 (48 + V % 10)] 5))) := hB.out.alloc hB.out.size _
      have HV : Hid (V.toNat / 10 = (V / 10).toNat) := by show _ = _; omega
      have hm0 : 0 ≤ V % 10 := by omega
      have hm1 : V % 10 < 10 := by omega
      clear hD hb hT1 HX
      go_wp2
      go_roundg ((V / 10).toNat)
      case measure => have := HGG.out; omega
      case rel => exact ⟨V / 10, b :: l, _, by simp, rfl, rfl, by omega, by omega, HS2, by rw [← HV.out]; exact HD2, HB2⟩
    · have hS0 : S.toList.isEmpty = false := by
        rw [ByteArray.toList_eq, hS.out]
        cases l with
        | nil => exact absurd rfl hl
        | cons _ _ => rfl
      have HGG : Hid (gk = V.toNat) := by have := HG.out; rw [if_neg hl] at this; exact this
      by_cases hv : 0 < V
      · have HLV : Hid (l = [] ∨ 0 < V.toNat) := .inr (by omega)
        have HD2 := Lib.hid (hD.out.step (HLV.out))
        obtain ⟨b, hb⟩ : ∃ b, UInt8.ofNat (48 + V.toNat % 10) = b := ⟨_, rfl⟩
        have HX : Hid (48 + V % 10 = (b.toNat : Int)) := by
          show _ = _
          rw [← hb, UInt8.toNat_ofNat']
          omega
        rw [hb] at HD2
        have hcv := run_one wr b _ HX.out
        obtain ⟨T1, hT1⟩ : ∃ T, strU [b] = T := ⟨_, rfl⟩
        have hT2 : T1.size = 1 := by rw [← hT1, strU_size]; rfl
        rw [hT1] at hcv
        have HS2 : Hid (T1 ++ S = strU (b :: l)) := by show _ = _; rw [← hT1, hS.out, strU_append]; rfl
        have HB2 : Hid (Below w.heap.size w (wr.alloc (.cells #[.int .u8 (48 + V % 10)] 5))) := hB.out.alloc hB.out.size _
        have HV : Hid (V.toNat / 10 = (V / 10).toNat) := by show _ = _; omega
        have hm0 : 0 ≤ V % 10 := by omega
        have hm1 : V % 10 < 10 := by omega
        clear hD hb hT1 HX
        go_wp2
        go_roundg ((V / 10).toNat)
        case measure => have := HGG.out; omega
        case rel => exact ⟨V / 10, b :: l, _, by simp, rfl, rfl, by omega, by omega, HS2, by rw [← HV.out]; exact HD2, HB2⟩
      · have HR : Hid (strU (Lib.itoa n) = S) := by show _ = _; rw [hS.out, HIT.out, hD.out.done hl (by omega)]
        clear hD hS
        go_wp2
        go_ret
        exact ⟨by rw [HR.out]; rfl, hB.out⟩
end Go.Proofs.YtflghlmikpfnpaaDoor.E
