/-
  VectorMeets: what comes in; the walk of the law.
-/
import Derived.Test.YtadcmljcbmfcaaaVRMeet
namespace Go.Proofs.Ytadcmljcbmfcaaa.V
open Go.ChangeShapes Go.WideShapes Go.ChangeAt Go.RowKit Go.Deep
set_option linter.unusedVariables false
set_option linter.unusedSimpArgs false

theorem weights_all_mem {H : Type} {P : Program} {e : TypeId} : ∀ {l : List (DataW H)} {d : DataW H}, d ∈ l → ∀ n ∈ d.weights P e, n ∈ DataW.weightsAll P e l
  | x :: t, d, h, n, hn => by
    simp only [DataW.weightsAll, List.mem_append]
    rcases List.mem_cons.1 h with rfl | h
    · exact .inl hn
    · exact .inr (weights_all_mem h n hn)
/-- One vector of a slice of vectors. -/
theorem open_vec {H : Type} {enc : TypeId × Value → H} {W : World} {n : Nat} {cs : List Value} {d : DataW H} {p : List MemPlace} (h : DataW.trod enc Try.prog W 0 (fun _ => true) true n 22 cs = some (d, p)) (hw : ∀ k ∈ d.weights Try.prog 22, k ≤ reachBytes) :
    ∃ x : Vc, cs = [x.v] ∧ x.ok W W.heap.size ∧ Fit x.l := by
  rcases open_slice Try.underlying22 h with ⟨hcs, _⟩ | ⟨x, len, cap, m, n', Dd, Pl, hcs, _, hl, hm, hmm, hx, hel⟩
  · exact ⟨⟨none, 0, []⟩, hcs, nil_ok _ _, by simp [Fit]⟩
  · simp only [if_true] at hmm
    subst hmm
    simp only [Prod.mk.injEq] at hx
    obtain ⟨l, e1, e2, e3⟩ := open_dots (len := len) (fun i hi => by obtain ⟨cs', h1, h2⟩ := hel i hi; exact ⟨cs', h1, _, h2⟩) hl
    subst e1
    refine ⟨⟨some x, m, l⟩, hcs, ⟨e2, hl, by unfold maxLen at hm; show m ≤ _; omega, ?_⟩, e3⟩
    have h1 := hw (((List.range l.length).map Dd).length + ((List.range (m - l.length)).map fun j => Dd (l.length + j)).length |>.mul (Try.prog.bytesOf 24)) (by rw [hx.1]; simp only [DataW.weights, Try.underlying22]; exact List.mem_cons_self ..)
    rw [bytes24] at h1
    simp only [List.length_map, List.length_range, reachBytes, Nat.mul_eq] at h1
    show l.length ≤ _
    omega
/-- A slice of vectors that came in. -/
theorem openLL {H : Type} {enc : TypeId × Value → H} {W : World} {a : Option Addr} {len cap : Nat} {d : DataW H} {p : List MemPlace} (h : DataW.Trod enc Try.prog W 0 (fun _ => true) true 39 (.slice a len cap) d p) (hw : ∀ k ∈ d.weights Try.prog 39, k ≤ reachBytes) :
    ∃ ls : List Vc, len = ls.length ∧ RowL W W.heap.size a ls ∧ (∀ x ∈ ls, Fit x.l) ∧ ls.length ≤ cap ∧ cap ≤ 9223372036854775807 ∧ ls.length ≤ 10000000000000 := by
  obtain ⟨fuel, hf⟩ := h
  rcases open_slice Try.underlying39 hf with ⟨hcs, _⟩ | ⟨x, l, c, m, n, Dd, Pl, hcs, _, hl, hm, hmm, hx, hel⟩
  · simp [Value.cells] at hcs
    obtain ⟨rfl, rfl, rfl⟩ := hcs
    exact ⟨[], rfl, fun h => absurd h (by simp), by simp, by simp, by omega, by simp⟩
  · simp [Value.cells] at hcs
    obtain ⟨rfl, rfl, rfl⟩ := hcs
    simp only [if_true] at hmm
    subst hmm
    simp only [Prod.mk.injEq] at hx
    have h1 := hw (((List.range len).map Dd).length + ((List.range (m - len)).map fun j => Dd (len + j)).length |>.mul (Try.prog.bytesOf 22)) (by rw [hx.1]; simp only [DataW.weights, Try.underlying39]; exact List.mem_cons_self ..)
    rw [bytes22] at h1
    simp only [List.length_map, List.length_range, reachBytes, Nat.mul_eq] at h1
    have each : ∀ i, i < len → ∃ q : Vc, W.cell? (x.add i) = some q.v ∧ q.ok W W.heap.size ∧ Fit q.l := by
      intro i hi
      obtain ⟨cs', g1, g2⟩ := hel i (by omega)
      rw [show Try.prog.cellsOf 22 = 1 by kernel_rfl] at g1
      obtain ⟨_, hlen, hcell⟩ := World.cells?_some g1
      obtain ⟨q, hq, ho, hf⟩ := open_vec g2 (fun k hk => hw k (by
        rw [hx.1]
        simp only [DataW.weights, Try.underlying39]
        exact List.mem_cons_of_mem _ (List.mem_append.2 (.inl (weights_all_mem (List.mem_map.2 ⟨i, List.mem_range.2 hi, rfl⟩) k hk)))))
      subst hq
      have c0 := hcell 0 (by omega)
      rw [Go.Deep.add_add] at c0
      exact ⟨q, by simpa using c0, ho, hf⟩
    haveI : Inhabited Vc := ⟨⟨none, 0, []⟩⟩
    obtain ⟨q, hq⟩ := choose_lt each
    refine ⟨(List.range len).map q, by simp, fun hpos => ?_, ?_, by simpa using hl, by unfold maxLen at hm; omega, by simp; omega⟩
    · rw [List.length_map, List.length_range] at hpos
      have hc0 := (hq 0 hpos).1
      obtain ⟨b, off, spot⟩ := x
      have hspot : spot = none := by simpa [Addr.add] using World.cell?_spot hc0
      subst hspot
      have hadd : ∀ j, (⟨b, off, none⟩ : Addr).add j = ⟨b, off + j, none⟩ := fun j => by
        unfold Addr.add; split
        · rename_i h; subst h; rfl
        · rfl
      simp only [hadd] at hq hc0
      refine ⟨b, off, rfl, World.block_lt_of_cell? W _ hc0, fun j r hj => ?_⟩
      obtain ⟨hj1, hj2⟩ := List.getElem?_eq_some_iff.1 hj
      rw [List.length_map, List.length_range] at hj1
      simp only [List.getElem_map, List.getElem_range] at hj2
      subst hj2
      exact ⟨(hq j hj1).1, (hq j hj1).2.1⟩
    · intro y hy
      obtain ⟨i, hi, rfl⟩ := List.mem_map.1 hy
      exact (hq i (List.mem_range.1 hi)).2.2
theorem RowL.take {w : World} {B : Nat} {A : Option Addr} {ls : List Vc} (h : RowL w B A ls) (k : Nat) : RowL w B A (ls.take k) := fun hn => by
  obtain ⟨b, off, e, hb, hc⟩ := h (by rw [List.length_take] at hn; omega)
  refine ⟨b, off, e, hb, fun j x hj => hc j x ?_⟩
  rw [List.getElem?_take] at hj
  split at hj
  · exact hj
  · cases hj
end Go.Proofs.Ytadcmljcbmfcaaa.V
namespace Go.Proofs.Ytadcmljcbmfcaaa.vectorMeets
open Go.RowKit Go.Proofs.Ytadcmljcbmfcaaa.V
set_option linter.unusedVariables false
set_option linter.unusedSimpArgs false

set_option maxRecDepth 100000 in
set_option maxHeartbeats 3200000 in
theorem walk (A : Option Addr) (c : Nat) (ls : List Vc) (w : World) (hr : RowL w w.heap.size A ls) (hfit : ∀ x ∈ ls, Fit x.l) (hl : ls.length ≤ 10000000000000) (hcap : ls.length ≤ c) (hc : c ≤ 9223372036854775807) : Calls Try.prog 6 #[.slice A ls.length c] w fun e w' => e = .returned (.bool true) ∧ Below w.heap.size w w' := by
  obtain ⟨L, hL⟩ : ∃ L, ls.length = L := ⟨_, rfl⟩
  rw [hL] at hl hcap ⊢
  have hmin : (if (50 : Int) < (L : Int) then (50 : Int) else (L : Int)) = ((min L 50 : Nat) : Int) := by omega
  obtain ⟨k, hk⟩ : ∃ k, min L 50 = k := ⟨_, rfl⟩
  rw [hk] at hmin
  have hkL : k ≤ L := by omega
  obtain ⟨t, ht⟩ : ∃ t, ls.take k = t := ⟨_, rfl⟩
  have htl : t.length = k := by rw [← ht, List.length_take, hL]; omega
  have hrt : RowL w w.heap.size A t := by rw [← ht]; exact hr.take k
  have hft : ∀ x ∈ t, Fit x.l := fun x hx => hfit x (List.mem_of_mem_take (by rw [ht]; exact hx))
  obtain ⟨O, hO⟩ : ∃ O, meetO t = O := ⟨_, rfl⟩
  have hO2 : rmeetO t = O := by rw [← meets_same, hO]
  have HR := Lib.hid hrt
  have HF := Lib.hid hft
  have HT := Lib.hid htl
  have HO := Lib.hid hO
  have HO2 := Lib.hid hO2
  have hk10 : Hid (k ≤ 10000000000000) := by show k ≤ _; omega
  have hkc : k ≤ c := by omega
  have hkc2 : (k : Int) ≤ (c : Int) := by omega
  clear hr hfit hL ht htl hrt hft hO hO2 hk
  go_enter Try.func6, Try.ntmps6
  go_wp2_with fail
  refine (shown_any _).mono ?_
  rintro e w2 ⟨rfl, hb2⟩
  have H2 := Lib.hid hb2
  have R2 := Lib.hid (HR.out.up hb2)
  clear hb2
  have hcall := meet_any c R2.out (by rw [HT.out]; exact hk10.out)
  rw [HT.out, HO.out] at hcall
  have HCall := Lib.hid hcall
  clear hcall
  go_wp2_with fail
  refine HCall.out.mono ?_
  rintro e w3 ⟨⟨A3, c3, rfl, ok3⟩, hb3⟩
  obtain ⟨r, z⟩ := O
  simp only at ok3 ⊢
  have H3 := Lib.hid (H2.out.trans (hb3.mono H2.out.size))
  have R3 := Lib.hid (R2.out.up hb3)
  have OK3 := Lib.hid ok3
  obtain ⟨rn, hrn⟩ : ∃ k, r.length = k := ⟨_, rfl⟩
  rw [hrn]
  have HRN := Lib.hid hrn
  clear hb3 ok3 hrn R2 HCall
  have hcall := rmeet_any c R3.out (by rw [HT.out]; exact hk10.out) HF.out
  rw [HT.out, HO2.out] at hcall
  have HCall := Lib.hid hcall
  clear hcall
  go_wp2_with fail
  refine HCall.out.mono ?_
  rintro e w4 ⟨⟨A4, c4, rfl, ok4⟩, hb4⟩
  simp only at ok4 ⊢
  rw [HRN.out]
  have H4 := Lib.hid (H3.out.trans (hb4.mono H3.out.size))
  have OK3' := OK3.out.up hb4
  have hzz : (z == z) = true := by simp
  have hsame := same_any c3 c4 OK3'.1 OK3'.2.2.2 ok4.1 ok4.2.2.2
  simp only [HRN.out, decide_true] at hsame
  have HSame := Lib.hid hsame
  clear hb4 ok4 hsame OK3' HCall R3
  go_wp2_with fail
  refine HSame.out.mono ?_
  rintro e w5 ⟨rfl, hb5⟩
  have H5 := Lib.hid (H4.out.trans (hb5.mono H4.out.size))
  clear hb5 HSame
  go_wp2
  go_ret
  exact ⟨rfl, H5.out⟩
end Go.Proofs.Ytadcmljcbmfcaaa.vectorMeets
