/-
  The reference's Show and Parse.
-/
import Derived.Test.YtflghlmikpfnpaaDoorERText
import Derived.Test.YtflghlmikpfnpaaDoorERRead
import Derived.Test.YtflghlmikpfnpaaDoorEParse
namespace Go.Proofs.YtflghlmikpfnpaaDoor.E
open Go.RowKit

set_option maxRecDepth 100000 in
set_option maxHeartbeats 1600000 in
theorem rshow_arg {w : World} {T : Option Tr} {v : Value} (h : Arg w T v) : Calls Tryd.prog 26 #[v] w fun e w' => e = .returned (showR T) ∧ Below w.heap.size w w' := by
  obtain ⟨o, A, n, c, rfl⟩ := h.form
  have HX := Lib.hid ((XS.begin w).boxed (.int .i64 o) (.slice A n c) 24)
  simp only [List.nil_append] at HX
  have hc1 := rnorm_arg (h.up HX.out.bel)
  have HOK : Hid (∀ t, T = some t → okT t = true) := fun t e => by subst e; exact h.inT.2
  unfold tv at *
  clear h
  obtain ⟨⟨x, z⟩, hr⟩ : ∃ r, normR T = r := ⟨_, rfl⟩
  rw [hr] at hc1
  have HR := Lib.hid hr
  clear hr
  go_enter Tryd.func26, Tryd.ntmps26
  go_wp2_with fail
  refine hc1.mono ?_
  rintro e w1 ⟨v1, rfl, ht1, hb1⟩
  obtain ⟨A1, n1, c1, rfl⟩ := ht1.form
  have hX1 := HX.out.next hb1
  have HX1 := Lib.hid (hX1.boxed (.int .i64 x.N) (.slice A1 n1 c1) 24)
  have hbx : Below w1.heap.size w1 (w1.alloc (.cells #[.int .i64 x.N, .slice A1 n1 c1] 24)) := (Below.refl _ w1).alloc (Nat.le_refl _) _
  have HT := Lib.hid (ht1.old.up hbx)
  simp only at HT
  simp only [List.nil_append, List.cons_append] at HX1
  clear hb1 hc1 HX hX1 ht1 hbx
  cases T with
  | none =>
    have hz : z = 2 := by have := HR.out; simp only [normR, Prod.mk.injEq] at this; omega
    subst hz
    generalize x.N = xn at *
    unfold tv
    go_wp2
    refine bodyPost_ret (results_tmp2 rfl _ _ _) rfl ?_
    exact ⟨rfl, HX1.out.bel⟩
  | some t =>
    have hz : z = 0 := by have := HR.out; simp only [normR, Prod.mk.injEq] at this; omega
    have hx : x = t.norm := by have := HR.out; simp only [normR, Prod.mk.injEq] at this; exact this.1.symm
    subst hz
    have hokn := (okT_iff _).1 (okT_norm (HOK.out t rfl))
    obtain ⟨p2, p3⟩ : ((w1.alloc (.cells #[.int .i64 x.N, .slice A1 n1 c1] 24)).cell? ⟨w1.heap.size, 0, none⟩ = some (.int .i64 x.N)) ∧ ((w1.alloc (.cells #[.int .i64 x.N, .slice A1 n1 c1] 24)).cell? ⟨w1.heap.size, 1, none⟩ = some (.slice A1 n1 c1)) := ⟨by simp [go_sem], by simp [go_sem]⟩
    have hc2 := text_any t.norm 4611686018427387904 (tv x.N A1 n1 c1) (w1.alloc (.cells #[.int .i64 x.N, .slice A1 n1 c1] 24)) hokn.2.1 (by omega) (by omega) (by have := HT.out; rw [hx] at this ⊢; exact this)
    have HE : Hid (showR (some t) = .tuple #[.string (strU (txt t.norm)), .int .i64 0]) := rfl
    obtain ⟨U, hU⟩ : ∃ U, strU (txt t.norm) = U := ⟨_, rfl⟩
    rw [hU] at HE hc2
    clear hU hokn hx HR HT HOK
    generalize x.N = xn at *
    unfold tv at *
    go_wp2_with fail
    refine hc2.mono ?_
    rintro e w2 ⟨rfl, hb2⟩
    have HX2 := Lib.hid (HX1.out.next hb2)
    clear hc2 hb2 HX1 p2 p3
    go_wp2
    refine bodyPost_ret (results_tmp2 rfl _ _ _) rfl ?_
    exact ⟨by rw [HE.out]; rfl, HX2.out.bel⟩

theorem str_same (l : List UInt8) (s : ByteArray) : ((strU l).toList == s.toList) = decide (l = ul s) := by
  rw [ByteArray.toList_eq, ByteArray.toList_eq, show (strU l).data.toList = l from rfl, Bool.eq_iff_iff, beq_iff_eq, decide_eq_true_iff]
  rfl
set_option maxRecDepth 100000 in
set_option maxHeartbeats 3200000 in
theorem rparse_any (s : ByteArray) (hs : s.size ≤ 140737488355328) (w : World) : Calls Tryd.prog 28 #[.string s] w (ParseR (parse (ul s)) w) := by
  have hcr := rread_any s hs 33 0 32 (w.alloc (.cells #[.int .i64 0, .slice none 0 0] 24)) (by omega) (by omega) (by omega)
  have HPE : Hid (parse (ul s) = (lrd (ul s) 33 0).bind fun x => if x.2 = s.size then (if okT x.1 = true ∧ txt x.1.norm = ul s then some x.1 else none) else none) := by show _ = _; rw [← rparse_eq, ← ul_length]; rfl
  have hb0 : Below w.heap.size w (w.alloc (.cells #[.int .i64 0, .slice none 0 0] 24)) := (Below.refl _ w).alloc (Nat.le_refl _) _
  have hx0 : Box2 (w.alloc (.cells #[.int .i64 0, .slice none 0 0] 24)) w.heap.size := Box2.new w _ _ 24
  have HB0 := Lib.hid hb0
  have HX0 := Lib.hid hx0
  clear hb0 hx0
  rw [show ((0 : Nat) : Int) = 0 from rfl] at hcr
  go_enter Tryd.func28, Tryd.ntmps28
  go_wp2_with fail
  refine hcr.mono ?_
  rintro e w2 ⟨hb2, hcase⟩
  have hX2 : Box2 w2 w.heap.size := HX0.out.below hb2 (by simp)
  have hB2 : Below w.heap.size w w2 := HB0.out.trans (hb2.mono (by simp))
  clear hcr
  rcases hcase with ⟨t, q, v, hr, rfl, hin⟩ | ⟨hr, rfl⟩
  · obtain ⟨A, n, c, rfl⟩ := hin.form
    obtain ⟨W3, hW3⟩ : ∃ W3, w2.alloc (.cells #[.int .i64 t.N, .slice A n c] 24) = W3 := ⟨_, rfl⟩
    have hb3 : Below w2.heap.size w2 W3 := by rw [← hW3]; exact (Below.refl _ w2).alloc (Nat.le_refl _) _
    have z0 : W3.cell? ⟨w2.heap.size, 0, none⟩ = some (.int .i64 t.N) := by rw [← hW3]; simp [go_sem]
    have z1 : W3.cell? ⟨w2.heap.size, 1, none⟩ = some (.slice A n c) := by rw [← hW3]; simp [go_sem]
    have hs3 : W3.heap.size = w2.heap.size + 1 := by rw [← hW3]; simp
    have hX3 : Box2 W3 w.heap.size := hX2.below hb3 hX2.lt
    have hB3 : Below w.heap.size w W3 := hB2.trans (hb3.mono hB2.size)
    have hin3 : InP (New w W3) W3 t (tv t.N A n c) := (hin.stay hb3).more fun b hb => ⟨by have := hb.1; simp at this; omega, by have := hb.2; omega⟩
    have HPE2 : Hid (parse (ul s) = if q = s.size then (if okT t = true ∧ txt t.norm = ul s then some t else none) else none) := by show _ = _; rw [HPE.out, hr]; rfl
    have hql := lrd_le _ _ _ _ _ hr
    rw [ul_length] at hql
    have hcs := rshow_arg (arg_of hin3.old)
    have HX3 := Lib.hid hX3
    have HB3 := Lib.hid hB3
    have HIN3 := Lib.hid hin3
    have HW3 := Lib.hid hW3
    obtain ⟨u0, u1, ⟨y0, y1⟩, y2, y3⟩ := hX3.facts
    have HF : Hid (∀ u1 u2, Below w.heap.size w ((W3.setCell ⟨w.heap.size, 0, none⟩ u1).setCell ⟨w.heap.size, 1, none⟩ u2)) := fun u1 u2 => (HB3.out.setCell (p := ⟨w.heap.size, 0, none⟩) (Nat.le_refl _) _).setCell (p := ⟨w.heap.size, 1, none⟩) (Nat.le_refl _) _
    clear hX2 hB2 hb2 hb3 hin hr HPE hX3 hB3 hin3 hs3
    generalize t.N = tn at *
    unfold tv at hcs
    unfold tv
    by_cases hq : q = s.size
    · subst hq
      have HPE3 : Hid (parse (ul s) = if okT t = true ∧ txt t.norm = ul s then some t else none) := by show _ = _; rw [HPE2.out, if_pos rfl]
      clear HPE2 HF y0 y1 y2 y3
      cases hf : fit t with
      | none =>
        have HN : Hid (parse (ul s) = none) := by
          show _ = _
          rw [HPE3.out, if_neg]
          rintro ⟨h, _⟩
          rw [fit_of h] at hf
          cases hf
        rw [hf] at hcs
        have hcs' : Calls Tryd.prog 26 #[.agg #[.int .i64 tn, .slice A n c]] W3 fun e w' => e = .returned (.tuple #[.string ⟨#[]⟩, .int .i64 2]) ∧ Below W3.heap.size W3 w' := hcs
        clear hcs hf HPE3
        go_wp2_with fail
        refine hcs'.mono ?_
        rintro e w4 ⟨rfl, hb4⟩
        have hX4 : Box2 w4 w.heap.size := HX3.out.below hb4 HX3.out.lt
        obtain ⟨u0, u1, ⟨y0, y1⟩, y2, y3⟩ := hX4.facts
        have HF : Hid (∀ u1 u2, Below w.heap.size w ((w4.setCell ⟨w.heap.size, 0, none⟩ u1).setCell ⟨w.heap.size, 1, none⟩ u2)) := fun u1 u2 => ((HB3.out.trans (hb4.mono HB3.out.size)).setCell (p := ⟨w.heap.size, 0, none⟩) (Nat.le_refl _) _).setCell (p := ⟨w.heap.size, 1, none⟩) (Nat.le_refl _) _
        clear hcs' hX4 hb4 z0 z1
        go_wp2
        refine bodyPost_ret (v := .tuple #[tv 0 none 0 0, .int .i64 50]) (by simp [results, Tryd.f28, go_sem, tv, y0, y1]) rfl ?_
        exact ⟨HF.out _ _, .inr ⟨HN.out, rfl⟩⟩
      | some t' =>
        obtain ⟨hok, rfl⟩ : okT t = true ∧ t = t' := by
          unfold fit at hf
          split at hf
          · rename_i h; injection hf with hf; exact ⟨h, hf⟩
          · cases hf
        rw [hf] at hcs
        have hsame := str_same (txt t.norm) s
        have hcs' : Calls Tryd.prog 26 #[.agg #[.int .i64 tn, .slice A n c]] W3 fun e w' => e = .returned (.tuple #[.string (strU (txt t.norm)), .int .i64 0]) ∧ Below W3.heap.size W3 w' := hcs
        obtain ⟨U, hU⟩ : ∃ U, strU (txt t.norm) = U := ⟨_, rfl⟩
        rw [hU] at hcs' hsame
        clear hcs hf hU
        go_wp2_with fail
        refine hcs'.mono ?_
        rintro e w4 ⟨rfl, hb4⟩
        have hX4 : Box2 w4 w.heap.size := HX3.out.below hb4 HX3.out.lt
        obtain ⟨u0, u1, ⟨y0, y1⟩, y2, y3⟩ := hX4.facts
        have HF : Hid (∀ u1 u2, Below w.heap.size w ((w4.setCell ⟨w.heap.size, 0, none⟩ u1).setCell ⟨w.heap.size, 1, none⟩ u2) ∧ InP (New w ((w4.setCell ⟨w.heap.size, 0, none⟩ u1).setCell ⟨w.heap.size, 1, none⟩ u2)) ((w4.setCell ⟨w.heap.size, 0, none⟩ u1).setCell ⟨w.heap.size, 1, none⟩ u2) t (tv tn A n c)) := fun u1 u2 => ⟨((HB3.out.trans (hb4.mono HB3.out.size)).setCell (p := ⟨w.heap.size, 0, none⟩) (Nat.le_refl _) _).setCell (p := ⟨w.heap.size, 1, none⟩) (Nat.le_refl _) _, (InP.set2 (hX4.set _) (InP.set2 hX4 (HIN3.out.stay hb4))).more fun b hb => ⟨hb.1, by rw [size_set, size_set]; exact Nat.lt_of_lt_of_le hb.2 hb4.size⟩⟩
        have z0' := (hb4.cell (World.block_lt_of_cell? W3 _ z0)).trans z0
        have z1' := (hb4.cell (World.block_lt_of_cell? W3 _ z1)).trans z1
        clear hcs' hX4 hb4 z0 z1
        by_cases he : txt t.norm = ul s
        · have HN : Hid (parse (ul s) = some t) := by show _ = _; rw [HPE3.out, if_pos ⟨hok, he⟩]
          rw [decide_eq_true he] at hsame
          clear HPE3 he hok
          go_wp2
          refine bodyPost_ret (v := .tuple #[tv tn A n c, .int .i64 0]) (by simp [results, Tryd.f28, go_sem, tv, y0, y1]) rfl ?_
          exact ⟨(HF.out _ _).1, .inl ⟨t, _, HN.out, rfl, (HF.out _ _).2⟩⟩
        · have HN : Hid (parse (ul s) = none) := by show _ = _; rw [HPE3.out, if_neg (fun h => he h.2)]
          rw [decide_eq_false he] at hsame
          clear HPE3 he hok
          go_wp2
          refine bodyPost_ret (v := .tuple #[tv 0 none 0 0, .int .i64 50]) (by simp [results, Tryd.f28, go_sem, tv, y0, y1]) rfl ?_
          exact ⟨(HF.out _ _).1, .inr ⟨HN.out, rfl⟩⟩
    · have HN : Hid (parse (ul s) = none) := by show _ = _; rw [HPE2.out, if_neg hq]
      have hqi : ¬ (q : Int) = (s.size : Int) := by omega
      have hqb : ((q : Int) != (s.size : Int)) = true := by simp; omega
      clear hcs HPE2
      go_wp2
      refine bodyPost_ret (v := .tuple #[tv 0 none 0 0, .int .i64 50]) (by simp [results, Tryd.f28, go_sem, tv, y0, y1]) rfl ?_
      exact ⟨HF.out _ _, .inr ⟨HN.out, rfl⟩⟩
  · have HN : Hid (parse (ul s) = none) := by show _ = _; rw [HPE.out, hr]; rfl
    have hX3 : Box2 (w2.alloc (.cells #[.int .i64 0, .slice none 0 0] 24)) w.heap.size := hX2.below ((Below.refl _ w2).alloc (Nat.le_refl _) _) hX2.lt
    obtain ⟨u0, u1, ⟨y0, y1⟩, y2, y3⟩ := hX3.facts
    have hB3 : Below w.heap.size w (w2.alloc (.cells #[.int .i64 0, .slice none 0 0] 24)) := hB2.trans (((Below.refl _ w2).alloc (Nat.le_refl _) _).mono hB2.size)
    have HF : Hid (∀ u1 u2, Below w.heap.size w (((w2.alloc (.cells #[.int .i64 0, .slice none 0 0] 24)).setCell ⟨w.heap.size, 0, none⟩ u1).setCell ⟨w.heap.size, 1, none⟩ u2)) := fun u1 u2 => (hB3.setCell (p := ⟨w.heap.size, 0, none⟩) (Nat.le_refl _) _).setCell (p := ⟨w.heap.size, 1, none⟩) (Nat.le_refl _) _
    have hqb : ((-1 : Int) != (s.size : Int)) = true := by simp
    clear hX2 hB2 hb2 hr HPE hX3 hB3
    unfold tv
    go_wp2
    refine bodyPost_ret (v := .tuple #[tv 0 none 0 0, .int .i64 50]) (by simp [results, Tryd.f28, go_sem, tv, y0, y1]) rfl ?_
    exact ⟨HF.out _ _, .inr ⟨HN.out, rfl⟩⟩
end Go.Proofs.YtflghlmikpfnpaaDoor.E
