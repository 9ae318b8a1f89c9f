/-
  The program's takeDot, Take.
-/
import Derived.Test.YtadcmljcbmfcaaaVLay
import Derived.Test.YtadcmljcbmfcaaaWText
namespace Go.Proofs.Ytadcmljcbmfcaaa.V
open Go.RowKit
set_option linter.unusedVariables false
set_option linter.unusedSimpArgs false

def takeD (l : List Nat) (a : Int) : Option (D × Nat) :=
  match Wi.M.takeT l a 24 with
  | none => none
  | some (t, p) => match Wi.M.takeN l (p : Int) with
    | none => none
    | some (n, q) => if n ≤ 4611686018427387904 then some ((Wi.strB t, (n : Int)), q) else none
def dotR : Option (D × Nat) → Value
  | none => .tuple #[.agg #[.string ByteArray.empty, .int .i64 0], .int .i64 0, .bool false]
  | some (d, q) => .tuple #[.agg #[.string d.1, .int .i64 d.2], .int .i64 (q : Int), .bool true]
theorem takeT_len {l : List Nat} {a m : Int} {t : List Nat} {p : Nat} (h : Wi.M.takeT l a m = some (t, p)) : p ≤ l.length := by
  unfold Wi.M.takeT at h
  split at h
  · cases h
  · split at h
    · rename_i hc
      injection h with h
      have := congrArg Prod.snd h
      simp only at this
      omega
    · cases h
theorem results_cell_tmp2 {fn : Func} {p u x : Tmp} {ty : TypeId} (h : fn.results = #[.cell p ty, .tmp u, .tmp x]) (tmps : Array Value) (P : Program) (w : World) :
    (results fn tmps).run P w =
      ((asAddr (tmps.getD p undef)).run P w).andThen fun a w₁ => ((loadVar ty a).run P w₁).andThen fun v w₂ => .ok (.tuple #[v, tmps.getD u undef, tmps.getD x undef]) w₂ := by
  simp only [results, h]
  simp [Sem.run_bind, Result.andThen]

set_option maxRecDepth 100000 in
set_option maxHeartbeats 3200000 in
theorem takeDot_any (A : Option Addr) (c : Nat) (l : List Nat) (a : Int) (w : World) (hr : Wi.Row w w.heap.size A l) (hcap : l.length ≤ c) (hl : l.length ≤ 281474976710656) (ha1 : -9223372036854775808 ≤ a) (ha2 : a ≤ 9223372036854775807) :
    Calls Try.prog 50 #[.slice A l.length c, .int .i64 a] w fun e w' => e = .returned (dotR (takeD l a)) ∧ Below w.heap.size w w' := by
  obtain ⟨W1, hW1⟩ : ∃ W1, w.alloc (.cells #[.string ⟨#[]⟩, .int .i64 0] 24) = W1 := ⟨_, rfl⟩
  have hb1 : Below w.heap.size w W1 := by rw [← hW1]; exact (Below.refl _ w).alloc (Nat.le_refl _) _
  have ht1 : Two W1 w.heap.size (.string ⟨#[]⟩) (.int .i64 0) := by rw [← hW1]; exact Two.new w _ _
  have hr1 := hr.up hb1
  have htext := Wi.takeText_any A c l a 24 W1 hr1 hcap hl ha1 ha2 (by omega) (by omega)
  obtain ⟨T, hT⟩ : ∃ T, Wi.M.takeT l a 24 = T := ⟨_, rfl⟩
  obtain ⟨O, hO⟩ : ∃ O, takeD l a = O := ⟨_, rfl⟩
  rw [hO]
  rw [hT] at htext
  have HT := Lib.hid hT
  have HO := Lib.hid hO
  have HText := Lib.hid htext
  have HR := Lib.hid (And.intro hr1 (And.intro hcap hl))
  have HW1 := Lib.hid hW1
  have HB1 := Lib.hid hb1
  have HT1 := Lib.hid ht1
  obtain ⟨ln, hln⟩ : ∃ n, l.length = n := ⟨_, rfl⟩
  rw [hln]
  have HLN := Lib.hid hln
  clear htext hT hO hr hr1 hcap hl hW1 hb1 ht1 hln
  go_enter Try.func50, Try.ntmps50
  go_wp2_with fail
  rw [HW1.out, ← HLN.out]
  refine HText.out.mono ?_
  rintro e w2 ⟨rfl, hb2⟩
  rw [HLN.out]
  have HB2 := Lib.hid (HB1.out.trans (hb2.mono HB1.out.size))
  have ht2 := HT1.out.below hb2 HT1.out.lt
  have HR2 := Lib.hid (HR.out.1.up hb2)
  have HT2 := Lib.hid ht2
  have e0 := ht2.c0
  have e1 := ht2.c1
  have f0 := ht2.f0
  have f1 := ht2.f1
  clear hb2 ht2 HText
  cases T with
  | none =>
    have HOO : Hid (O = none) := by show O = none; rw [← HO.out]; unfold takeD; rw [HT.out]
    simp only [Wi.txtR]
    have hz := ((HT2.out.set0 (.string ⟨#[]⟩)).set1 (.int .i64 0))
    have e2 := hz.c0
    have e3 := hz.c1
    have HB3 := Lib.hid ((HB2.out.setCell (p := ⟨w.heap.size, 0, none⟩) (Nat.le_refl _) (.string ⟨#[]⟩)).setCell (p := ⟨w.heap.size, 1, none⟩) (Nat.le_refl _) (.int .i64 0))
    clear hz
    go_wp2
    refine bodyPost_ret (v := .tuple #[.agg #[.string ByteArray.empty, .int .i64 0], .int .i64 0, .bool false]) (by rw [results_cell_tmp2 rfl]; go_simp; try rfl) rfl ?_
    exact ⟨by rw [HOO.out]; rfl, HB3.out⟩
  | some tp =>
    obtain ⟨t, p⟩ := tp
    have hpl := takeT_len HT.out
    have hnum := Wi.takeNumber_any A c l (p : Int) w2 HR2.out HR.out.2.2 (by omega) (by have := HR.out.2.2; omega)
    obtain ⟨T2, hT2⟩ : ∃ T, Wi.M.takeN l (p : Int) = T := ⟨_, rfl⟩
    rw [hT2, HLN.out] at hnum
    have HT3 := Lib.hid hT2
    have HNum := Lib.hid hnum
    simp only [Wi.txtR]
    clear hnum hT2
    go_wp2_with fail
    refine HNum.out.mono ?_
    rintro e w3 ⟨rfl, hb3⟩
    have HB3 := Lib.hid (HB2.out.trans (hb3.mono HB2.out.size))
    have ht3 := HT2.out.below hb3 HT2.out.lt
    have HT4 := Lib.hid ht3
    clear e0 e1 f0 f1 hb3 HNum
    have e0 := ht3.c0
    have e1 := ht3.c1
    have f0 := ht3.f0
    have f1 := ht3.f1
    clear ht3
    cases T2 with
    | none =>
      have HOO : Hid (O = none) := by show O = none; rw [← HO.out]; unfold takeD; rw [HT.out]; simp only; rw [HT3.out]
      simp only [Wi.numR]
      have hz := ((HT4.out.set0 (.string ⟨#[]⟩)).set1 (.int .i64 0))
      have e2 := hz.c0
      have e3 := hz.c1
      have HB4 := Lib.hid ((HB3.out.setCell (p := ⟨w.heap.size, 0, none⟩) (Nat.le_refl _) (.string ⟨#[]⟩)).setCell (p := ⟨w.heap.size, 1, none⟩) (Nat.le_refl _) (.int .i64 0))
      clear hz
      go_wp2
      refine bodyPost_ret (v := .tuple #[.agg #[.string ByteArray.empty, .int .i64 0], .int .i64 0, .bool false]) (by rw [results_cell_tmp2 rfl]; go_simp; try rfl) rfl ?_
      exact ⟨by rw [HOO.out]; rfl, HB4.out⟩
    | some nq =>
      obtain ⟨n, q⟩ := nq
      simp only [Wi.numR]
      by_cases hbig : n ≤ 4611686018427387904
      · have HOO : Hid (O = some ((Wi.strB t, (n : Int)), q)) := by
          show O = _
          rw [← HO.out]; unfold takeD; rw [HT.out]; simp only; rw [HT3.out]; simp only; rw [if_pos hbig]
        obtain ⟨X, hX⟩ : ∃ X : Int, (n : Int) = X := ⟨_, rfl⟩
        have hgt : ¬ (4611686018427387904 : Int) < X := by omega
        have hw : IntKind.wrap .i64 X = X := by rw [IntKind.wrap_i64]; omega
        have hw2 : wrap64 X = X := by unfold wrap64; omega
        rw [hX] at HOO ⊢
        have hz := ((HT4.out.set0 (.string (Wi.strB t))).set1 (.int .i64 X))
        have e2 := hz.c0
        have e3 := hz.c1
        have HB4 := Lib.hid ((HB3.out.setCell (p := ⟨w.heap.size, 0, none⟩) (Nat.le_refl _) (.string (Wi.strB t))).setCell (p := ⟨w.heap.size, 1, none⟩) (Nat.le_refl _) (.int .i64 X))
        obtain ⟨ST, hST⟩ : ∃ s, Wi.strB t = s := ⟨_, rfl⟩
        rw [hST] at HOO e2 e3 HB4 ⊢
        clear hz hbig hX hST
        go_wp2
        refine bodyPost_ret (v := .tuple #[.agg #[.string ST, .int .i64 X], .int .i64 (q : Int), .bool true]) (by rw [results_cell_tmp2 rfl]; go_simp; try rfl) rfl ?_
        exact ⟨by rw [HOO.out]; rfl, HB4.out⟩
      · have HOO : Hid (O = none) := by
          show O = _
          rw [← HO.out]; unfold takeD; rw [HT.out]; simp only; rw [HT3.out]; simp only; rw [if_neg hbig]
        obtain ⟨X, hX⟩ : ∃ X : Int, (n : Int) = X := ⟨_, rfl⟩
        have hgt : (4611686018427387904 : Int) < X := by omega
        rw [hX]
        have hz := ((HT4.out.set0 (.string ⟨#[]⟩)).set1 (.int .i64 0))
        have e2 := hz.c0
        have e3 := hz.c1
        have HB4 := Lib.hid ((HB3.out.setCell (p := ⟨w.heap.size, 0, none⟩) (Nat.le_refl _) (.string ⟨#[]⟩)).setCell (p := ⟨w.heap.size, 1, none⟩) (Nat.le_refl _) (.int .i64 0))
        clear hz hbig hX
        go_wp2
        refine bodyPost_ret (v := .tuple #[.agg #[.string ByteArray.empty, .int .i64 0], .int .i64 0, .bool false]) (by rw [results_cell_tmp2 rfl]; go_simp; try rfl) rfl ?_
        exact ⟨by rw [HOO.out]; rfl, HB4.out⟩
end Go.Proofs.Ytadcmljcbmfcaaa.V
