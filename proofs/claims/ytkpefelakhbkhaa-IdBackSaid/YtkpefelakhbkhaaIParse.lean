/-
  Parse: the program's, the reference's.
-/
import Derived.Test.YtkpefelakhbkhaaITText
import Derived.Test.YtkpefelakhbkhaaILayText
namespace Go.Proofs.Ytkpefelakhbkhaa.I
open Go.RowKit

def parseR : Option Tr → Tr × Int
  | some t => (t, 0)
  | none => (.leaf false, 40)
theorem XS.bad {w W : World} {bs : List (Nat × Value × Value)} {rs : List Nat} (h : XS w bs (w.heap.size :: rs) W) : Ans (.leaf false, 40) w (.returned (.tuple #[tv false Option.none 0 0, .int .i64 40])) ((W.setCell ⟨w.heap.size, 0, Option.none⟩ (.bool false)).setCell ⟨w.heap.size, 1, Option.none⟩ (.slice Option.none 0 0)) :=
  ⟨_, rfl, (h.fin (zero_in _ _) _ (by simp) _ _).1, (h.fin (zero_in _ _) _ (by simp) _ _).2⟩
theorem XS.good {w W : World} {bs : List (Nat × Value × Value)} {rs : List Nat} (h : XS w bs (w.heap.size :: rs) W) {t : Tr} {v : Value} (ht : InT W W.heap.size t v) (u1 u2 : Value) : Ans (t, 0) w (.returned (.tuple #[v, .int .i64 0])) ((W.setCell ⟨w.heap.size, 0, Option.none⟩ u1).setCell ⟨w.heap.size, 1, Option.none⟩ u2) :=
  ⟨_, rfl, (h.fin ht _ (by simp) _ _).1, (h.fin ht _ (by simp) _ _).2⟩

theorem fit_isSome' {t : Tr} (h : (fit t).isSome = true) : fit t = some t := by
  unfold fit at *
  split at h
  · rename_i h1; rw [if_pos h1]
  · cases h
set_option maxRecDepth 100000 in
set_option maxHeartbeats 1600000 in
theorem parse_any (s : ByteArray) (w : World) (hs : s.size ≤ 140737488355328) : Calls Try.prog 30 #[.string s] w (Ans (parseR (parseT s)) w) := by
  have HX := Lib.hid ((XS.begin w).fresh (.bool false) (.slice none 0 0))
  simp only [List.nil_append] at HX
  by_cases h0 : 4093 < s.size
  · have HE : Hid (parseT s = none) := if_pos h0
    clear HX
    go_enter Try.func30, Try.ntmps30
    go_wp2
    refine bodyPost_ret (v := .tuple #[tv false none 0 0, .int .i64 40]) (by simp [results, Try.f30, go_sem, tv]) rfl ?_
    rw [HE.out]
    exact ⟨_, rfl, zero_in _ _, (Below.refl _ w).alloc (Nat.le_refl _) _⟩
  · have HT : Hid (parseT s = match tk (byt s) 33 0 with | some r => if r.2 < s.size then none else some r.1 | none => none) := if_neg h0
    have hc := takeText_any s hs 33 0 (w.alloc (.cells #[.bool false, .slice none 0 0] 24)) (Nat.le_refl _) (Nat.zero_le _)
    have HL := Lib.hid (byt_length s)
    rw [show (33 : Int) - ((33 : Nat) : Int) = 0 from rfl, Int.natCast_zero] at hc
    go_enter Try.func30, Try.ntmps30
    go_wp2_with fail
    refine hc.mono ?_
    rintro e w1 ⟨he, hb1⟩
    have hx1 := HX.out.next hb1
    clear hb1 hc HX
    cases hr : tk (byt s) 33 0 with
    | none =>
      rw [hr] at he HT
      simp only at he HT
      subst he
      have HX1 := Lib.hid (hx1.boxed (.bool false) (.slice none 0 0))
      simp only [List.nil_append] at HX1
      obtain ⟨y0, y1, ⟨d0, d1⟩, f0, f1⟩ := HX1.out.facts w.heap.size (by simp)
      have HN := Lib.hid HX1.out.bad
      clear hx1 hr HX1
      unfold tv
      go_wp2
      refine bodyPost_ret (v := .tuple #[tv false none 0 0, .int .i64 40]) (by simp [results, Try.f30, go_sem, tv, d0, d1]) rfl ?_
      rw [HT.out]
      exact HN.out
    | some r =>
      obtain ⟨r1, r2⟩ := r
      rw [hr] at he HT
      simp only at he HT
      obtain ⟨v1, rfl, h1⟩ := he
      obtain ⟨o1, A1, n1, c1, rfl⟩ := h1.form
      have HX1 := Lib.hid (hx1.boxed (.bool o1) (.slice A1 n1 c1))
      simp only [List.nil_append] at HX1
      have H1 := Lib.hid (h1.up ((Below.refl _ w1).alloc (Nat.le_refl _) (.cells #[.bool o1, .slice A1 n1 c1] 24)))
      obtain ⟨y0, y1, ⟨d0, d1⟩, f0, f1⟩ := HX1.out.facts w.heap.size (by simp)
      have hr2 := (tk_lt hr).2
      have hl := HL.out
      clear hx1 hr h1 HL
      unfold tv
      by_cases h2 : r2 < s.size
      · rw [if_pos h2] at HT
        have HN := Lib.hid HX1.out.bad
        clear HX1 H1
        go_wp2
        refine bodyPost_ret (v := .tuple #[tv false none 0 0, .int .i64 40]) (by simp [results, Try.f30, go_sem, tv, d0, d1]) rfl ?_
        rw [HT.out]
        exact HN.out
      · rw [if_neg h2] at HT
        have HN := Lib.hid (HX1.out.good H1.out (.bool o1) (.slice A1 n1 c1))
        clear HX1 H1
        go_wp2
        refine bodyPost_ret (v := .tuple #[tv o1 A1 n1 c1, .int .i64 0]) (by simp [results, Try.f30, go_sem, tv, d0, d1]) rfl ?_
        rw [HT.out]
        exact HN.out

theorem rshow_arg {w : World} {T : Option Tr} {v : Value} (hv : Arg w T v) : Calls Try.prog 29 #[v] w fun e w' => e = .returned (showR T) ∧ Below w.heap.size w w' := by
  obtain ⟨o, ks, A, c, rfl, hk, rfl⟩ := hv
  exact rshow_any o ks A c w hk
theorem rd_zero (s : ByteArray) : (rd 33 (byt s)).map (fun r => (r.1, r.2)) = rk (byt s) 33 0 := by
  have := rd_rk (byt s) 33 0
  rw [List.drop_zero] at this
  rw [← this]
  cases rd 33 (byt s) <;> simp
/-- What the reference reads, and shows again. -/
theorem parse_ref (s : ByteArray) : parseT s = match rd 33 (byt s) with
    | some r => if r.2 = s.size ∧ (fit r.1).isSome = true ∧ strB (textT r.1.norm) = s then some r.1 else none
    | none => none := by
  have h0 := rd_zero s
  have hl := byt_length s
  cases hr : rd 33 (byt s) with
  | none =>
    rw [hr] at h0
    simp only
    cases hp : parseT s with
    | none => rfl
    | some t =>
      obtain ⟨h1, h2, h3, h4⟩ := (parseT_iff s t).1 hp
      have := rk_of (byt s) t 33 0 [] (by omega) (by rw [h1]; simp)
      rw [← h0] at this
      cases this
  | some r =>
    obtain ⟨t, m⟩ := r
    rw [hr] at h0
    simp only [Option.map_some] at h0
    obtain ⟨k1, k2, k3, k4⟩ := rk_text _ _ _ _ _ h0.symm
    simp only
    by_cases hc : m = s.size ∧ (fit t).isSome = true ∧ strB (textT t.norm) = s
    · rw [if_pos hc]
      obtain ⟨c1, c2, c3⟩ := hc
      have k5 : (byt s).drop m = [] := List.drop_eq_nil_of_le (by omega)
      rw [k5, List.append_nil, List.drop_zero] at k1
      have k6 : textT t.norm = textT t := by
        have := byt_strB (textT t.norm) (text_small _)
        rw [c3, k1] at this
        exact this.symm
      obtain ⟨_, f1, f2⟩ := fit_eq (fit_isSome' c2)
      exact (parseT_iff s t).2 ⟨k1, text_inj k6, f1, f2⟩
    · rw [if_neg hc]
      cases hp : parseT s with
      | none => rfl
      | some u =>
        exfalso
        apply hc
        obtain ⟨h1, h2, h3, h4⟩ := (parseT_iff s u).1 hp
        have := rk_of (byt s) u 33 0 [] (by omega) (by rw [h1]; simp)
        rw [← h0] at this
        injection this with this
        injection this with e1 e2
        subst e1
        refine ⟨?_, ?_, ?_⟩
        · rw [e2, ← h1, hl]; omega
        · rw [fit_of h3 h4]; rfl
        · rw [h2, ← h1, strB_byt]
set_option maxRecDepth 100000 in
set_option maxHeartbeats 3200000 in
theorem rparse_any (s : ByteArray) (w : World) (hs : s.size ≤ 140737488355328) : Calls Try.prog 31 #[.string s] w (Ans (parseR (parseT s)) w) := by
  have HX := Lib.hid ((XS.begin w).fresh (.bool false) (.slice none 0 0))
  simp only [List.nil_append] at HX
  have HT := Lib.hid (parse_ref s)
  have hc := read_any s hs 33 0 (w.alloc (.cells #[.bool false, .slice none 0 0] 24)) (by decide) (Nat.zero_le _)
  rw [show ((33 : Nat) : Int) - 1 = 32 from rfl, Int.natCast_zero] at hc
  go_enter Try.func31, Try.ntmps31
  go_wp2_with fail
  refine hc.mono ?_
  rintro e w1 ⟨he, hb1⟩
  have hx1 := HX.out.next hb1
  clear hb1 hc HX
  rw [List.drop_zero] at he
  rcases he with ⟨t, m, v1, hr, hm, rfl, h1⟩ | ⟨hr, rfl⟩
  · rw [hr] at HT
    simp only at HT
    rw [Nat.zero_add] at hm
    simp only [Nat.zero_add]
    obtain ⟨o1, A1, n1, c1, rfl⟩ := h1.form
    have HX1 := Lib.hid (hx1.boxed (.bool o1) (.slice A1 n1 c1))
    simp only [List.nil_append] at HX1
    have H1 := Lib.hid (h1.up ((Below.refl _ w1).alloc (Nat.le_refl _) (.cells #[.bool o1, .slice A1 n1 c1] 24)))
    clear hx1 hr h1
    unfold tv
    by_cases h2 : m = s.size
    · subst h2
      have hcs := rshow_arg (arg_of H1.out)
      unfold tv at hcs
      obtain ⟨F, hF⟩ : ∃ F, fit t = F := ⟨_, rfl⟩
      have HF := Lib.hid hF
      rw [hF] at hcs HT
      clear hF
      cases F with
      | none =>
        simp only [showR] at hcs
        simp only [Option.isSome_none, Bool.false_eq_true, false_and, and_false, if_false] at HT
        go_wp2_with fail
        refine hcs.mono ?_
        rintro e w2 ⟨rfl, hb2⟩
        have HX2 := Lib.hid (HX1.out.next hb2)
        obtain ⟨y0, y1, ⟨d0, d1⟩, f0, f1⟩ := HX2.out.facts w.heap.size (by simp)
        have HN := Lib.hid HX2.out.bad
        clear hb2 HX1 HX2 hcs H1
        go_wp2
        refine bodyPost_ret (v := .tuple #[tv false none 0 0, .int .i64 40]) (by simp [results, Try.f31, go_sem, tv, d0, d1]) rfl ?_
        rw [HT.out]
        exact HN.out
      | some u =>
        obtain ⟨rfl, _, _⟩ := fit_eq HF.out
        simp only [showR] at hcs
        simp only [Option.isSome_some, true_and] at HT
        obtain ⟨S, hS⟩ : ∃ S, strB (textT u.norm) = S := ⟨_, rfl⟩
        rw [hS] at hcs HT
        clear hS HF
        go_wp2_with fail
        refine hcs.mono ?_
        rintro e w2 ⟨rfl, hb2⟩
        have HX2 := Lib.hid (HX1.out.next hb2)
        have H2 := Lib.hid (H1.out.up hb2)
        obtain ⟨y0, y1, ⟨d0, d1⟩, f0, f1⟩ := HX2.out.facts w.heap.size (by simp)
        clear hb2 HX1 hcs H1
        by_cases hq : S = s
        · rw [if_pos hq] at HT
          subst hq
          have f := HX2.out.at0
          simp only [List.mem_cons, List.not_mem_nil, or_false, forall_eq] at f
          obtain ⟨p0, q0, _⟩ := f
          have HN := Lib.hid (HX2.out.good H2.out (.bool o1) (.slice A1 n1 c1))
          clear HX2 H2
          go_wp2
          refine bodyPost_ret (v := .tuple #[tv o1 A1 n1 c1, .int .i64 0]) (by simp [results, Try.f31, go_sem, tv, d0, d1]) rfl ?_
          rw [HT.out]
          exact HN.out
        · rw [if_neg hq] at HT
          have hne : (S.toList == s.toList) = false := by
            rw [toList_same]
            exact decide_eq_false fun e => hq (byt_inj e)
          have HN := Lib.hid HX2.out.bad
          clear HX2 H2 hq
          go_wp2
          refine bodyPost_ret (v := .tuple #[tv false none 0 0, .int .i64 40]) (by simp [results, Try.f31, go_sem, tv, d0, d1]) rfl ?_
          rw [HT.out]
          exact HN.out
    · rw [if_neg (fun h => h2 h.1)] at HT
      obtain ⟨y0, y1, ⟨d0, d1⟩, f0, f1⟩ := HX1.out.facts w.heap.size (by simp)
      have HN := Lib.hid HX1.out.bad
      have hne : ((m : Int) == (s.size : Int)) = false := beq_eq_false_iff_ne.2 (by omega)
      clear HX1 H1
      go_wp2
      refine bodyPost_ret (v := .tuple #[tv false none 0 0, .int .i64 40]) (by simp [results, Try.f31, go_sem, tv, d0, d1]) rfl ?_
      rw [HT.out]
      exact HN.out
  · rw [hr] at HT
    simp only at HT
    have HX1 := Lib.hid (hx1.boxed (.bool false) (.slice none 0 0))
    simp only [List.nil_append] at HX1
    obtain ⟨y0, y1, ⟨d0, d1⟩, f0, f1⟩ := HX1.out.facts w.heap.size (by simp)
    have HN := Lib.hid HX1.out.bad
    have hne : ((-1 : Int) == (s.size : Int)) = false := beq_eq_false_iff_ne.2 (by omega)
    clear HX1 hx1 hr
    unfold tv
    go_wp2
    refine bodyPost_ret (v := .tuple #[tv false none 0 0, .int .i64 40]) (by simp [results, Try.f31, go_sem, tv, d0, d1]) rfl ?_
    rw [HT.out]
    exact HN.out
end Go.Proofs.Ytkpefelakhbkhaa.I
